/- The document's Out: Push. -/
import Derived.Test.YtjcanghffhpncaaG27
import Derived.Deep.AppendLies
namespace Go.Proofs.Ytjcanghffhpncaa
open Go.RowKit

theorem owns_some {w : World} {base n : Nat} {v : Value} {zs : List Int} (h : w.ownsRow base 5 1 v n (zs.map (Value.int .u8))) (hn : 0 < n) : ∃ fb fc, v = .slice (some ⟨fb, 0, none⟩) n fc ∧ base ≤ fb ∧ fb < w.heap.size ∧ n ≤ fc ∧ Row w .u8 (some ⟨fb, 0, none⟩) zs := by
  have h' := h
  rcases h.2 with ⟨_, h0⟩ | ⟨g, cap, cur, hv, hb, hh, h1, _⟩
  · omega
  · subst hv
    refine ⟨g, cap, rfl, hb, lt_of_block hh, h1, fun i hi => ⟨g, 0, rfl, ?_⟩⟩
    have hc := h'.cells (g := g) rfl i (.int .u8 (zs.getD i 0)) (by rw [List.getElem?_map, List.getD, List.getElem?_eq_getElem hi]; rfl)
    rwa [Addr.add_lit] at hc
theorem qelem : Try.prog.elem 23 = 5 := by kernel_rfl
theorem qsize (W : World) : (sizeOf 5).run Try.prog W = .ok 1 W := by
  obtain ⟨i0, hi, hz0, hz1, hz2⟩ := info_parts' infoByte'
  simp [sizeOf, typeInfo, hi, hz1]
theorem qund : Try.prog.underlying 23 = some (.slice (Try.prog.elem 23)) := by rw [qelem]; exact Try.underlying23
theorem run_fromQ (b o lk ck n : Nat) (hn : n ≤ lk) : ∃ (av : Addr), av.block = b ∧ ((ck = n ∧ av = ⟨b, o, none⟩) ∨ (ck ≠ n ∧ av = ⟨b, o + n, none⟩)) ∧ ∀ W : World, (Instr.slice 23 (.slice (some ⟨b, o, none⟩) lk ck) (some (.int .i64 (n : Int))) none none).run Try.prog W = .ok (.slice (some av) (lk - n) (ck - n)) W := by
  by_cases h : ck = n
  · refine ⟨⟨b, o, none⟩, rfl, .inl ⟨h, rfl⟩, fun W => ?_⟩
    rw [run_slice_l (P := Try.prog) W 23 (some ⟨b, o, none⟩) lk ck qund .i64 (n : Int) (by omega) (by omega), qelem, qsize]
    simp [Result.andThen, sliced, h]
  · refine ⟨⟨b, o + n, none⟩, rfl, .inr ⟨h, rfl⟩, fun W => ?_⟩
    rw [run_slice_l (P := Try.prog) W 23 (some ⟨b, o, none⟩) lk ck qund .i64 (n : Int) (by omega) (by omega), qelem, qsize]
    simp [Result.andThen, sliced, h, Addr.add_lit]
theorem told_err {i n : Nat} {er : Int} (h : er ≠ 0) : toldOf (idleOf i n er) er = er := by
  have h0 : idleOf i n er = 0 := by unfold idleOf; exact if_pos (Or.inr h)
  rw [h0]; unfold toldOf; simp

set_option maxRecDepth 100000 in
set_option maxHeartbeats 6400000 in
theorem rpush_any {τ : Type} {wf : τ → List Int → Int × Int × τ} {cnt sz : τ → Nat} {B g2 : Nat} {Wd : World → τ → (Nat → Prop) → Prop} (T : Writer wf cnt sz 58 (.pointer (some ⟨g2, 0, none⟩)) B Wd)
    (W : World) (g : Nat) (x : OutS τ) (F : Nat → Prop) (C Z : Nat) (hI : IsROut Wd B g g2 W x F) (hok : OutOk cnt sz C Z x) (hC : C ≤ 4611686018427387000) (hZ : Z ≤ 140737488355328) (hB : B ≤ W.heap.size) :
    Calls Try.prog 48 #[.pointer (some ⟨g, 0, none⟩)] W fun e W' => ROutPost Wd B g g2 (.tuple #[.int .i64 ((pushP wf x).1 : Nat), .int .i64 (pushP wf x).2.1]) (pushP wf x).2.2 F W e W' := by
  obtain ⟨i0', hi0, hz0, hz1, hz2⟩ := info_parts' infoByte'
  have HSAME : Hid (∀ n, (x.err ≠ 0 ∨ x.b = []) → ROutPost Wd B g g2 (.tuple #[.int .i64 ((pushP wf x).1 : Nat), .int .i64 (pushP wf x).2.1]) (pushP wf x).2.2 F W (.returned (.tuple #[.int .i64 0, .int .i64 x.err])) (W.drewN n)) := hide fun n h => by
    have hp : pushP wf x = (0, x.err, x) := by unfold pushP; rw [if_pos h]
    rw [hp]
    exact ⟨F, rfl, hI.still T n, (((Still.refl W).drewN n).upd Noth).noth, fun _ h => .inl h⟩
  obtain ⟨wv, off, i, M, hi, hrd, ho, hMg, hBg, hd, hix, hF⟩ := hI
  have c0 := (ROutC.c hi).1
  have c1 := (ROutC.c hi).2.1
  have c3 := (ROutC.c hi).2.2.2.1
  have hgl : g < W.heap.size := lt_of_block hi
  obtain ⟨xl, hxl⟩ : ∃ xl, x.b.length = xl := ⟨_, rfl⟩
  obtain ⟨aw, cw, rfl, hrow, hnw, hcw, haw⟩ := ho.slice hxl
  by_cases he : x.err = 0
  · by_cases hb : x.b = []
    · have HF := hide (HSAME.out 0 (.inr hb))
      obtain rfl : xl = 0 := by rw [← hxl, hb]; rfl
      rw [he] at c3 HF
      clear hi hrd ho hd hF hrow hnw haw HSAME T hok he hb hxl hix
      go_enter Try.func48, Try.ntmps48
      go_wp2_with fail
      go_ret2
      exact HF.out
    · have hxp : 0 < xl := by rw [← hxl]; exact List.length_pos_iff.2 hb
      obtain ⟨b0, o0, haw0, _⟩ := hrow.cons (by omega)
      subst haw0
      obtain rfl : o0 = off := (haw _ rfl).1
      obtain ⟨k, hk⟩ : ∃ k, k = min xl 4096 := ⟨_, rfl⟩
      have hkl : (x.b.take 4096).length = k := by rw [List.length_take, hxl, hk]; omega
      have hk1 : 1 ≤ k := by omega
      have hrow1 : Row W .u8 (some ⟨b0, o0, none⟩) (x.b.take 4096) := hrow.take 4096
      have hi16 := hok.i16 he
      have hpot := hok.pot he
      have hsz := hok.size he
      have hall := hok.all
      rw [hxl] at hpot hsz hall
      have HPS := hide (push_step (wf := wf) he hb _ rfl)
      rw [hkl] at HPS
      have HWR : Hid (∀ (w1 : World) (v : Value), w1.ownsRow W.heap.size 5 1 v k ((x.b.take 4096).map (Value.int .u8)) → Below W.heap.size W w1 → ∃ fb fc, v = .slice (some ⟨fb, 0, none⟩) k fc ∧ ROutC w1 g g2 (.slice (some ⟨b0, o0, none⟩) xl cw) x.at' x.err i ∧
          Calls Try.prog 58 #[.pointer (some ⟨g2, 0, none⟩), .slice (some ⟨fb, 0, none⟩) k fc] w1 fun e w2 => ∃ M', e = .returned (.tuple #[.int .i64 (wf x.t (x.b.take 4096)).1, .int .i64 (wf x.t (x.b.take 4096)).2.1]) ∧ Wd w2 (wf x.t (x.b.take 4096)).2.2 M' ∧ Upd M W w2 ∧ (∀ j, M' j → M j ∨ W.heap.size ≤ j) ∧ ROutC w2 g g2 (.slice (some ⟨b0, o0, none⟩) xl cw) x.at' x.err i ∧ OwnW w2 B 5 o0 (.slice (some ⟨b0, o0, none⟩) xl cw) x.b ∧ ¬ M' g ∧ ¬ M' b0) := hide fun w1 v hv hb1 => by
        have hu1 : Upd Noth W w1 := Upd.of_below hb1 Noth
        obtain ⟨fb, fc, rfl, hfl, _, hfc, hvr⟩ := owns_some hv (by omega)
        have hlt := T.lt hrd
        refine ⟨fb, fc, rfl, hi.upd hu1 (fun e => e), ?_⟩
        refine (T.write w1 x.t M fb 0 k fc (x.b.take 4096) (T.upd hrd hu1 (fun _ e => e.elim)) (by omega) hkl (by omega) hfc hvr (fun e => by have := (hlt _ e).2; omega) (by omega) (Nat.le_trans hB hb1.size)).mono ?_
        rintro e w2 ⟨M', rfl, hw2, hu2, hm2⟩
        have hz1 := hb1.size
        exact ⟨M', rfl, hw2, hu1.noth.trans hu2, fun j hj => (hm2 j hj).imp id (fun h => by omega), (hi.upd hu1 (fun e => e)).upd hu2 hMg, (ho.upd hu1 (fun _ _ e => e)).upd hu2 (fun j hj => (hd j hj).1), fun e => (hm2 g e).elim hMg (fun h => by omega), fun e => (hm2 b0 e).elim (hd b0 rfl).1 (fun h => by have := (ho.lt b0 rfl).2; omega)⟩
      have HFF := hide hF
      have HT := hide T
      have HIX := hide (hix he)
      have HRW := hide (fun (w0 : World) (h : Below W.heap.size W w0) => hrow1.below2 h)
      have hxl0 : ¬ (xl : Int) = 0 := by omega
      have hkc : (k : Int) ≤ (cw : Int) := by omega
      have hk0 : (0 : Int) ≤ (k : Int) := by omega
      have hb0l := ho.lt b0 rfl
      have hb0g : b0 ≠ g := (hd b0 rfl).2
      have hb0M : ¬ M b0 := (hd b0 rfl).1
      rw [he] at c3
      have HE := hide he
      replace hxl := hide hxl
      replace hk := hide hk
      replace hkl := hide hkl
      clear hi hrd ho hd hF hrow hrow1 hnw haw HSAME T hok he hb hix
      have hif : (if (4096 : Int) < (xl : Int) then (4096 : Int) else (xl : Int)) = (k : Int) := by have := hk.out; split <;> omega
      have hkx : k ≤ xl := by have := hk.out; omega
      have hcwx : xl ≤ cw := hcw
      clear hk
      go_enter Try.func48, Try.ntmps48
      go_wp2_with fail
      go_quiet (fail)
      have hS0 : Below W.heap.size W (W.drewN nq) := ((Still.refl W).drewN nq).below _
      have HS0 := hide hS0
      clear hS0
      generalize W.drewN nq = w0 at *
      have d0 := (HS0.out.cell (p := ⟨g, 0, none⟩) hgl).trans c0
      have S0 := hide HS0.out.size
      clear c0 c1 c3
      go_wp2_with fail
      go_region_held3 (fun w => w.cell? ⟨g, 0, none⟩ = some (.pointer (some ⟨g2, 0, none⟩))) (go_keep) (first
        | (go_at_call 58; refine HW1.out.mono ?_; rintro e w2 ⟨M', rfl, hw2, hu2, hm2, hi2, ho2, hMg2, hMb2⟩; have f0 := (ROutC.c hi2).1; replace hw2 := hide hw2; replace hu2 := hide hu2; replace hm2 := hide hm2; replace ho2 := hide ho2; replace hi2 := hide hi2)
        | (refine step_app rfl (.tmp 38) (.tmp 39) 23 rfl W.heap.size 5 i0' Try.underlying23 hi0 hz0 hz1 hz2 (.slice (some ⟨w0.heap.size, 0, none⟩) 0 0) [] (by simp [Act.eval]) (World.ownsRow_made w0 #[] 0 S0.out (by unfold maxLen; omega) rfl).drew (some ⟨b0, o0, none⟩) k cw (x.b.take 4096) (by simp [Act.eval]) hkl.out (by intro h; cases h) (HRW.out _ (HS0.out.alloc S0.out _).drew) (by simp; omega) (by show W.heap.size ≤ (w0.alloc _).heap.size; rw [World.size_alloc]; have := S0.out; omega) ?_; intro v3 w3 hv3 hg3 hn3; simp only [List.nil_append] at hv3; rw [hkl.out] at hv3; have B3 : Below W.heap.size W w3 := (HS0.out.alloc S0.out _).drew.grown hg3 (by show W.heap.size ≤ (w0.alloc _).heap.size; rw [World.size_alloc]; have := S0.out; omega) (fun k h => by cases h; exact S0.out); obtain ⟨fb, fc, rfl, hi1, HW1⟩ := HWR.out w3 v3 hv3 B3; have e0 := (ROutC.c hi1).1; replace HW1 := hide HW1; clear hv3 hg3 hn3 B3 hi1)
        | fail)
      have e1 := (ROutC.c hi2.out).2.1
      have e2 := (ROutC.c hi2.out).2.2.1
      have e3 := (ROutC.c hi2.out).2.2.2.1
      have e4 := (ROutC.c hi2.out).2.2.2.2.1
      have f1 := (ROutC.c hi2.out).2.2.2.2.2 1
      have f2 := (ROutC.c hi2.out).2.2.2.2.2 2
      have f3 := (ROutC.c hi2.out).2.2.2.2.2 3
      have f4 := (ROutC.c hi2.out).2.2.2.2.2 4
      rw [HE.out] at e3
      clear HWR HRW HW1 HS0 S0 e0 d0 hif
      generalize wf x.t (x.b.take 4096) = q at *
      obtain ⟨n, er, t'⟩ := q
      simp only at HPS hw2
      by_cases hbad : n < 0 ∨ (k : Int) < n
      · rw [if_pos hbad] at HPS
        have HF : Hid (∀ m, ROutPost Wd B g g2 (.tuple #[.int .i64 ((pushP wf x).1 : Nat), .int .i64 (pushP wf x).2.1]) (pushP wf x).2.2 F W (.returned (.tuple #[.int .i64 0, .int .i64 34])) ((w2.setCell ⟨g, 3, none⟩ (.int .i64 34)).drewN m)) := hide fun m => by
          rw [HPS.out]
          have hu : Upd (fun j => j = g) w2 ((w2.setCell ⟨g, 3, none⟩ (.int .i64 34)).drewN m) := ((Upd.refl _ _).set1 3 _).trans (((Still.refl _).drewN m).upd _)
          refine ⟨fun j => M' j ∨ j = g ∨ j = b0, rfl, ⟨_, o0, i, M', block_setCell hi2.out 3 _, HT.out.upd hw2.out hu (fun j e => by subst e; exact ⟨hBg, hMg2⟩), ho2.out.upd hu (fun j hj e => by cases hj; exact hb0g e), hMg2, hBg, (fun j hj => by cases hj; exact ⟨hMb2, hb0g⟩), (fun h => absurd h (show ¬ (34 : Int) = 0 by decide)), fun j => ⟨fun h => h.imp id (fun h => h.imp id (fun h => by rw [h]; rfl)), fun h => h.imp id (fun h => h.imp id (fun h => by cases h; rfl))⟩⟩, (hu2.out.mono (fun j _ h => (HFF.out j).2 (.inl h))).then hu (fun j _ e => (HFF.out j).2 (.inr (.inl e))), ?_⟩
          rintro j (h | h | h)
          · exact (hm2.out j h).imp (fun h => (HFF.out j).2 (.inl h)) id
          · exact .inl ((HFF.out j).2 (.inr (.inl h)))
          · exact .inl ((HFF.out j).2 (.inr (.inr (by rw [h]; rfl))))
        rcases hbad with hneg | hbig
        · go_wp2_with fail
          go_quiet (fail)
          go_wp2_with fail
          go_ret2
          exact HF.out _
        · have hneg : ¬ n < 0 := by omega
          go_wp2_with fail
          go_quiet (fail)
          go_wp2_with fail
          go_ret2
          exact HF.out _
      · rw [if_neg hbad] at HPS
        obtain ⟨y, rfl⟩ : ∃ y : Nat, n = y := ⟨n.toNat, by omega⟩
        rw [Int.toNat_natCast] at HPS
        have hyk : y ≤ k := by omega
        have m1 : ¬ (y : Int) < 0 := by omega
        have m2 : ¬ (k : Int) < (y : Int) := by omega
        have m3 : (0 : Int) ≤ (y : Int) := by omega
        have m4 : (y : Int) ≤ (xl : Int) := by omega
        have m5 : (xl : Int) ≤ (cw : Int) := by omega
        have m6 : (y : Int) ≤ (cw : Int) := by omega
        have hatb : x.at' + y ≤ 9223372036854775807 := by omega
        have HFIN : Hid (∀ (av : Addr) (cv oo : Nat) (w3 : World) (er' iv : Int) (i' : Nat), OwnW w2 B 5 oo (.slice (some av) (xl - y) cv) (x.b.drop y) → av.block = b0 → w3.heap[g]? = some (.cells #[.pointer (some ⟨g2, 0, none⟩), .slice (some av) (xl - y) cv, .int .i64 ((x.at' : Int) + (y : Int)), .int .i64 er', .int .i64 iv] 73 (0, 0)) → Upd (fun j => j = g) w2 w3 → er' = toldOf (idleOf x.i y er) er → iv = (i' : Int) → (er' = 0 → i' = idleOf x.i y er) → ROutPost Wd B g g2 (.tuple #[.int .i64 ((pushP wf x).1 : Nat), .int .i64 (pushP wf x).2.1]) (pushP wf x).2.2 F W (.returned (.tuple #[.int .i64 (y : Int), .int .i64 er'])) w3) := hide fun av cv oo w3 er' iv i' how hav hw3 huu her hiv hii => by
          rw [HPS.out]
          subst hiv
          subst her
          refine ⟨fun j => M' j ∨ j = g ∨ j = b0, rfl, ⟨.slice (some av) (xl - y) cv, oo, i', M', ?_, HT.out.upd hw2.out huu (fun j e => by subst e; exact ⟨hBg, hMg2⟩), how.upd huu (fun j hj e => by cases hj; exact hb0g (hav.symm.trans e)), hMg2, hBg, (fun j hj => by cases hj; rw [hav]; exact ⟨hMb2, hb0g⟩), hii, fun j => ⟨fun h => h.imp id (fun h => h.imp id (fun h => by rw [h, ← hav]; rfl)), fun h => h.imp id (fun h => h.imp id (fun h => by cases h; exact hav))⟩⟩, (hu2.out.mono (fun j _ h => (HFF.out j).2 (.inl h))).then huu (fun j _ e => (HFF.out j).2 (.inr (.inl e))), ?_⟩
          · show w3.heap[g]? = _
            rw [hw3, show ((x.at' + y : Nat) : Int) = (x.at' : Int) + (y : Int) from by omega]
          · rintro j (h | h | h)
            · exact (hm2.out j h).imp (fun h => (HFF.out j).2 (.inl h)) id
            · exact .inl ((HFF.out j).2 (.inr (.inl h)))
            · exact .inl ((HFF.out j).2 (.inr (.inr (by rw [h]; rfl))))
        have hyb : y ≤ x.b.length := by rw [hxl.out]; omega
        obtain ⟨av, cv, oo, hcut, HDA⟩ : ∃ (av : Addr) (cv oo : Nat), (∀ W : World, (Instr.slice 23 (.slice (some ⟨b0, o0, none⟩) xl cw) (some (.int .i64 (y : Int))) none none).run Try.prog W = .ok (.slice (some av) (xl - y) cv) W) ∧ Hid (OwnW w2 B 5 oo (.slice (some av) (xl - y) cv) (x.b.drop y) ∧ av.block = b0) := by
          obtain ⟨av, hab, hcase, hc⟩ := run_fromQ b0 o0 xl cw y (by omega)
          rcases hcase with ⟨h1, h2⟩ | ⟨h1, h2⟩
          · refine ⟨av, cw - y, o0, hc, ?_, hab⟩
            rw [h2, show xl - y = 0 by omega, show cw - y = 0 by omega, List.drop_eq_nil_of_le (by rw [hxl.out]; omega)]
            exact ho2.out.all
          · refine ⟨av, cw - y, o0 + y, hc, ?_, hab⟩
            rw [h2]
            exact ho2.out.drop y hyb
        have HF2 := hide (fun w3 er' iv i' => HFIN.out av cv oo w3 er' iv i' HDA.out.1 HDA.out.2)
        have HI2 : Hid (ROutC w2 g g2 (.slice (some ⟨b0, o0, none⟩) xl cw) x.at' 0 i) := by have q := hi2.out; rw [HE.out] at q; exact q
        have hib : i < 16 := by rw [HIX.out]; exact hi16
        have HIXX := HIX
        clear HFIN hbad hw2 hu2 hm2 ho2 hyb HPS hxl HDA
        by_cases her : er = 0
        · subst her
          by_cases hy0 : 0 < y
          · have hy1 : (0 : Int) < (y : Int) := by omega
            have HI0 : Hid (idleOf x.i y 0 = 0) := by unfold idleOf; exact if_pos (.inl hy0)
            have HT0 : Hid (toldOf (idleOf x.i y 0) 0 = 0) := by show _ = _; rw [HI0.out]; rfl
            have hv4 : ((((w2.setCell ⟨g, 1, none⟩ (.slice (some av) (xl - y) cv)).setCell ⟨g, 2, none⟩ (.int .i64 ((x.at' : Int) + (y : Int)))).setCell ⟨g, 4, none⟩ (.int .i64 ((i : Int) + 1))).setCell ⟨g, 4, none⟩ (.int .i64 0)).cell? ⟨g, 4, none⟩ = some (.int .i64 0) := blk_cell (block_setCell (block_setCell (block_setCell (block_setCell HI2.out 1 _) 2 _) 4 _) 4 _) rfl
            go_wp2_with fail
            go_quiet (fail)
            go_wp2_with fail
            go_ret2
            exact HF2.out _ _ _ 0 (show _ from block_setCell (block_setCell (block_setCell (block_setCell HI2.out 1 _) 2 _) 4 _) 4 _) (((((Upd.refl _ _).set1 1 _).set1 2 _).set1 4 _).set1 4 _ |>.trans (((Still.refl _).drewN _).upd _)) HT0.out.symm rfl (fun _ => HI0.out.symm)
          · have hy1 : ¬ (0 : Int) < (y : Int) := by omega
            by_cases h16 : i + 1 = 16
            · obtain rfl : i = 15 := by omega
              have e4' : w2.cell? ⟨g, 4, none⟩ = some (.int .i64 15) := e4
              have HI0 : Hid (idleOf x.i y 0 = 16) := by show _ = _; rw [← HIXX.out]; unfold idleOf; rw [if_neg (by omega)]
              have HT0 : Hid (toldOf (idleOf x.i y 0) 0 = 33) := by show _ = _; rw [HI0.out]; rfl
              clear e4
              go_wp2_with fail
              go_quiet (fail)
              go_wp2_with fail
              go_ret2
              exact HF2.out _ _ _ 16 (show _ from block_setCell (block_setCell (block_setCell (block_setCell HI2.out 1 _) 2 _) 4 _) 3 _) (((((Upd.refl _ _).set1 1 _).set1 2 _).set1 4 _).set1 3 _ |>.trans (((Still.refl _).drewN _).upd _)) HT0.out.symm rfl (fun h => absurd h (by decide))
            · have h16' : ¬ (i : Int) + 1 = 16 := by omega
              have HI0 : Hid (idleOf x.i y 0 = i + 1) := by show _ = _; rw [← HIXX.out]; unfold idleOf; rw [if_neg (by omega)]
              have HT0 : Hid (toldOf (idleOf x.i y 0) 0 = 0) := by show _ = _; rw [HI0.out]; unfold toldOf; rw [if_neg (by omega)]
              have HCI : Hid ((i : Int) + 1 = ((i + 1 : Nat) : Int)) := by show _ = _; omega
              go_wp2_with fail
              go_quiet (fail)
              go_wp2_with fail
              go_ret2
              exact HF2.out _ _ _ (i + 1) (show _ from block_setCell (block_setCell (block_setCell HI2.out 1 _) 2 _) 4 _) ((((Upd.refl _ _).set1 1 _).set1 2 _).set1 4 _ |>.trans (((Still.refl _).drewN _).upd _)) HT0.out.symm HCI.out (fun _ => HI0.out.symm)
        · have hne := beq_eq_false_iff_ne.2 her
          have HTE := hide (told_err (i := x.i) (n := y) her)
          go_wp2_with fail
          go_ret2
          exact HF2.out _ _ _ i (block_setCell (block_setCell (block_setCell HI2.out 1 _) 2 _) 3 _) ((((Upd.refl _ _).set1 1 _).set1 2 _).set1 3 _) HTE.out.symm rfl (fun h => absurd h her)
  · have he' : (x.err == 0) = false := by simp [he]
    have HF := hide (fun n => HSAME.out n (.inl he))
    clear hi hrd ho hd hF hrow hnw haw HSAME T hok hix
    go_enter Try.func48, Try.ntmps48
    go_wp2_with fail
    go_quiet (fail)
    go_wp2_with fail
    go_ret2
    exact HF.out _

end Go.Proofs.Ytjcanghffhpncaa
