/- The statements' Begun and lay. -/
import Derived.Test.YtfpogjgbmibmcaaALaw1
namespace Go.Proofs.Ytfpogjgbmibmcaa
open Go.RowKit

def BegP (w : World) (nodes : Int) (e : Ending) (w' : World) : Prop :=
  ∃ P AX AY, e = .returned (.tuple #[.pointer (some ⟨P, 0, none⟩), .bool true]) ∧ AW (fun k => k < w.heap.size ∨ k = P) w' P AX AY (AS.new nodes) (AS.new nodes) ∧ Below w.heap.size w w'
set_option maxHeartbeats 800000 in
theorem begun_bad (nodes : Int) (w : World) (h : ¬ (1 ≤ nodes ∧ nodes ≤ 65536)) : Calls Try.prog 9 #[.int .i64 nodes] w fun e w' => e = .returned (.tuple #[.pointer none, .bool true]) ∧ w' = w := by
  have HX := hide (new_bad nodes w h)
  have HY := hide (rnew_bad nodes w h)
  clear h
  go_enter Try.func9, Try.ntmps9
  go_wp2_with fail
  refine keep HX.out ?_
  go_wp2_with fail
  refine keep HY.out ?_
  go_wp2_with fail
  go_ret2
  exact ⟨rfl, rfl⟩
set_option maxHeartbeats 800000 in
theorem begun_good (nodes : Int) (w : World) (h1 : 1 ≤ nodes) (h2 : nodes ≤ 65536) : Calls Try.prog 9 #[.int .i64 nodes] w (BegP w nodes) := by
  have HX := hide (px_new nodes w h1 h2)
  have HY : Hid (∀ W, Calls Try.prog 29 #[.int .i64 nodes] W (NewR W nodes)) := fun W => rx_new nodes W h1 h2
  clear h1 h2
  go_enter Try.func9, Try.ntmps9
  go_wp2_with fail
  refine HX.out.mono ?_
  rintro e w1 ⟨AX, FX, rfl, hp, hf, hb⟩
  have PP := hide hp
  have PF := hide hf
  have B1 := hide hb
  clear hp hf hb
  go_wp2_with fail
  refine (HY.out w1).mono ?_
  rintro e w2 ⟨AY, FY, rfl, hr, hg, hb⟩
  have RR := hide hr
  have RF := hide hg
  have B2 := hide hb
  clear hr hg hb
  go_wp2_with fail
  go_ret2
  have u1 : Upd Noth w1 (w2.alloc (.cells #[.pointer (some ⟨AX, 0, none⟩), .pointer (some ⟨AY, 0, none⟩)] 58)) := (Upd.of_below B2.out _).alloc _
  have u2 : Upd Noth w2 (w2.alloc (.cells #[.pointer (some ⟨AX, 0, none⟩), .pointer (some ⟨AY, 0, none⟩)] 58)) := (Upd.refl _ _).alloc _
  have s1 := B1.out.size
  have s2 := B2.out.size
  refine ⟨w2.heap.size, AX, AY, rfl, ⟨FX, FY, heap_alloc_new w2 _, PP.out.upd u1 (fun _ _ e => e), RR.out.upd u2 (fun _ _ e => e), ?_, ?_, .inr rfl, ?_⟩, ?_⟩
  · intro k hx hy
    have := PP.out.lt k hx
    have := RF.out k hy
    omega
  · intro k hk hK
    rcases hk with hk | hk
    · have := PP.out.lt k hk
      have := PF.out k hk
      omega
    · have := RR.out.lt k hk
      have := RF.out k hk
      omega
  · intro k hk
    simp
    omega
  · exact (B1.out.trans (B2.out.mono s1)).alloc (by omega) _

/-- A node is laid. -/
def AS.finS (u : AS) (id : Int) (p : NP) : AS := ((u.hedS id p.lv p.hi p.ri).bodS id p.ks p.vs p.cs).unlS id true
def AS.layS (s : AS) (id : Int) (p : NP) : AS :=
  if (s.sl.length : Int) < id then (if (s.sl.length : Int) < s.nodes then s.allS.finS id p else s) else (s.lockS id (s.wordW id)).finS id p
/-- A node among what is not touched. -/
theorem Nd.Ok.kept {K : Nat → Prop} {W W' : World} {n : Nd} (h : n.Ok W) (hi : n.In K) (hu : Upd (fun k => ¬ K k) W W') : n.Ok W' := h.upd hi hu (fun _ hk e => e hk)
section
variable {K : Nat → Prop} {W : World} {P AX AY : Nat} {s : AS}
set_option maxRecDepth 100000 in
set_option maxHeartbeats 6400000 in
theorem wlay_any (h : AW K W P AX AY s s) (id : Int) (n : Nd) (hn : n.Ok W) (hi : n.In K) :
    Calls Try.prog 39 #[.pointer (some ⟨P, 0, none⟩), .int .i64 id, n.v] W (AwPost K W P AX AY (s.layS id n.p)) := by
  obtain ⟨w0, hw0⟩ : ∃ w0, w0 = W.alloc (.cells #[.int .i64 n.lv, n.hi.v, .int .i64 n.ri, n.ks.v, n.vs.v, n.cs.v] 37) := ⟨_, rfl⟩
  have b0 : Below W.heap.size W w0 := by rw [hw0]; exact (Below.refl _ _).alloc (Nat.le_refl _) _
  have z0 : w0.heap.size = W.heap.size + 1 := by rw [hw0]; simp
  have g0 : w0.heap[W.heap.size]? = some (.cells #[.int .i64 n.lv, n.hi.v, .int .i64 n.ri, n.ks.v, n.vs.v, n.cs.v] 37 (0, 0)) := by rw [hw0]; exact heap_alloc_new W _
  obtain ⟨K', hK'⟩ : ∃ K' : Nat → Prop, K' = fun k => K k ∨ k = W.heap.size := ⟨_, rfl⟩
  have hA0 : AW K' w0 P AX AY s s := h.more b0 (fun k hk => by rw [hK'] at hk; rcases hk with hk | hk; exact .inl hk; exact .inr (by omega)) (by rw [hK']; exact .inl h.kp)
  have hn0 : n.Ok w0 := hn.below b0
  have hi0 : n.In K' := hi.mono (fun k hk => by rw [hK']; exact .inl hk)
  have kb : K' W.heap.size := by rw [hK']; exact .inr rfl
  have kk : ∀ k, K k → K' k := fun k hk => by rw [hK']; exact .inl hk
  have HEND : Hid (∀ w' u, AW K' w' P AX AY u u → Upd (fun k => ¬ K' k) w0 w' → AwPost K W P AX AY u (.returned (.bool true)) w') := fun w' u h1 h2 => ⟨rfl, h1.less kk h.kp, (kept_below b0).trans (kept_less h2 kk)⟩
  have HCE : Hid (∀ w', Upd (fun k => ¬ K' k) w0 w' → Six w' W.heap.size (.int .i64 n.lv) n.hi.v (.int .i64 n.ri) n.ks.v n.vs.v n.cs.v) := fun w' hu => Six.of (kept_heap hu g0 kb)
  have HOK : Hid (∀ w', Upd (fun k => ¬ K' k) w0 w' → n.Ok w') := fun w' hu => hn0.kept hi0 hu
  have HBW := hide h.kp
  have hl := h.len
  have HA0 := hide hA0
  have HW := hide hw0
  have HGB : Hid (w0.cell? ⟨P, 0, none⟩ = some (.pointer (some ⟨AX, 0, none⟩)) ∧ w0.cell? ⟨P, 1, none⟩ = some (.pointer (some ⟨AY, 0, none⟩))) := hA0.cells
  clear h hn hi hK' hA0 hn0 hi0 kb kk b0 g0 hw0
  -- the calls, each of a state
  have SHX : Hid (∀ w' u t, AW K' w' P AX AY u t → Upd (fun k => ¬ K' k) w0 w' → Calls Try.prog 23 #[.pointer (some ⟨AX, 0, none⟩), .int .i64 id, .agg #[.int .i64 n.lv, n.hi.v, .int .i64 n.ri]] w' fun e w'' => e = .returned (.int .i64 (u.unlE id)) ∧ AW K' w'' P AX AY (u.hedS id n.lv n.hi.s n.ri) t ∧ Upd (fun k => ¬ K' k) w' w'') := fun w' u t hw hu => hw.X (fun F hp => px_setH hp id n.lv n.ri n.hi (HOK.out w' hu).h)
  have SHY : Hid (∀ w' u t, AW K' w' P AX AY u t → Upd (fun k => ¬ K' k) w0 w' → Calls Try.prog 35 #[.pointer (some ⟨AY, 0, none⟩), .int .i64 id, .agg #[.int .i64 n.lv, n.hi.v, .int .i64 n.ri]] w' fun e w'' => e = .returned (.int .i64 (t.unlE id)) ∧ AW K' w'' P AX AY u (t.hedS id n.lv n.hi.s n.ri) ∧ Upd (fun k => ¬ K' k) w' w'') := fun w' u t hw hu => hw.Y (fun F hp => rx_setH hp id n.lv n.ri n.hi (HOK.out w' hu).h)
  have SBX : Hid (∀ w' u t, AW K' w' P AX AY u t → Upd (fun k => ¬ K' k) w0 w' → Calls Try.prog 24 #[.pointer (some ⟨AX, 0, none⟩), .int .i64 id, .agg #[n.ks.v, n.vs.v, n.cs.v]] w' fun e w'' => e = .returned (.int .i64 (u.unlE id)) ∧ AW K' w'' P AX AY (u.bodS id n.ks.p n.vs.p n.cs.s) t ∧ Upd (fun k => ¬ K' k) w' w'') := fun w' u t hw hu => hw.X (fun F hp => px_setB hp id n.ks n.vs n.cs (HOK.out w' hu).k (HOK.out w' hu).v (HOK.out w' hu).c (HOK.out w' hu).kz (HOK.out w' hu).vz (HOK.out w' hu).cz)
  have SBY : Hid (∀ w' u t, AW K' w' P AX AY u t → Upd (fun k => ¬ K' k) w0 w' → Calls Try.prog 36 #[.pointer (some ⟨AY, 0, none⟩), .int .i64 id, .agg #[n.ks.v, n.vs.v, n.cs.v]] w' fun e w'' => e = .returned (.int .i64 (t.unlE id)) ∧ AW K' w'' P AX AY u (t.bodS id n.ks.p n.vs.p n.cs.s) ∧ Upd (fun k => ¬ K' k) w' w'') := fun w' u t hw hu => hw.Y (fun F hp => rx_setB hp id n.ks n.vs n.cs (HOK.out w' hu).k (HOK.out w' hu).v (HOK.out w' hu).c (HOK.out w' hu).kz (HOK.out w' hu).vz (HOK.out w' hu).cz)
  have ULX : Hid (∀ w' u t, AW K' w' P AX AY u t → Calls Try.prog 22 #[.pointer (some ⟨AX, 0, none⟩), .int .i64 id, .bool true] w' fun e w'' => e = .returned (.int .i64 (u.unlE id)) ∧ AW K' w'' P AX AY (u.unlS id true) t ∧ Upd (fun k => ¬ K' k) w' w'') := fun w' u t hw => hw.X (fun F hp => px_unlock hp id true)
  have ULY : Hid (∀ w' u t, AW K' w' P AX AY u t → Calls Try.prog 34 #[.pointer (some ⟨AY, 0, none⟩), .int .i64 id, .bool true] w' fun e w'' => e = .returned (.int .i64 (t.unlE id)) ∧ AW K' w'' P AX AY u (t.unlS id true) ∧ Upd (fun k => ¬ K' k) w' w'') := fun w' u t hw => hw.Y (fun F hp => rx_unlock hp id true)
  have HUS : Hid (∀ w', AW K' w' P AX AY s s → Calls Try.prog 20 #[.pointer (some ⟨AY, 0, none⟩)] w' fun e w'' => e = .returned (.int .i64 (s.sl.length : Nat)) ∧ w'' = w') := fun w' hw => aw_usedY hw
  have HU0 := hide (HUS.out w0 HA0.out)
  have ALX := hide (HA0.out.X (fun F hp => px_alloc hp))
  have ALY : Hid (∀ w' u, AW K' w' P AX AY u s → Calls Try.prog 31 #[.pointer (some ⟨AY, 0, none⟩)] w' fun e w'' => e = .returned (.tuple #[.int .i64 s.allI, .int .i64 s.allE]) ∧ AW K' w'' P AX AY u s.allS ∧ Upd (fun k => ¬ K' k) w' w'') := fun w' u hw => hw.Y (fun F hp => rx_alloc hp)
  have WRY := hide (aw_wordY HA0.out id)
  have LCK := hide (wlock_any HA0.out id (s.wordW id) (HA0.out.wlt id))
  have HFIN : Hid (∀ u : AS, u.finS id n.p = ((u.hedS id n.lv n.hi.s n.ri).bodS id n.ks.p n.vs.p n.cs.s).unlS id true) := fun u => rfl
  have HLAY : Hid (s.layS id n.p = if (s.sl.length : Int) < id then (if (s.sl.length : Int) < s.nodes then s.allS.finS id n.p else s) else (s.lockS id (s.wordW id)).finS id n.p) := rfl
  rw [HLAY.out]
  clear HLAY HOK
  obtain ⟨lv, ⟨ha, hc, hs⟩, ri, ⟨ka, kc, KL⟩, ⟨va, vc, V⟩, ⟨ca, cc, C⟩⟩ := n
  simp only [Nd.v, Tx.v, TL.v, IL.v] at HW HCE SHX SHY SBX SBY ⊢
  generalize Nd.p ⟨lv, ⟨ha, hc, hs⟩, ri, ⟨ka, kc, KL⟩, ⟨va, vc, V⟩, ⟨ca, cc, C⟩⟩ = np at *
  generalize hs.length = lh at *
  generalize KL.length = lk at *
  generalize V.length = lw at *
  generalize C.length = lc at *
  generalize TL.p ⟨ka, kc, KL⟩ = kp at *
  generalize TL.p ⟨va, vc, V⟩ = vp at *
  have Z0 := hide z0
  obtain ⟨m, hm⟩ : ∃ m, s.sl.length = m := ⟨_, rfl⟩
  rw [hm] at HU0 hl
  have HM := hide hm
  rw [hm]
  clear hm z0
  obtain ⟨c0, c1⟩ := HGB.out
  have e0 := c0
  have e1 := c1
  rw [HW.out] at e0 e1
  by_cases hgt : (m : Int) < id
  · rw [if_pos hgt]
    by_cases hroom : (m : Int) < s.nodes
    · rw [if_pos hroom]
      have hI : s.allI = (m : Int) + 1 := by unfold AS.allI; rw [HM.out, if_pos hroom]
      have hE : s.allE = 0 := by unfold AS.allE; rw [HM.out, if_pos hroom]
      rw [hI, hE] at ALX ALY
      clear hI hE
      go_enter Try.func39, Try.ntmps39
      go_wp2_with fail
      rw [← HW.out]
      clear e0 e1
      refine keep HU0.out ?_
      go_wp2_with fail
      refine ALX.out.mono ?_
      rintro e w1 ⟨rfl, hA, hU⟩
      obtain ⟨d0, d1⟩ := hA.cells
      have AY1 := hide (ALY.out w1 s.allS hA)
      have U1 := hide hU
      clear hA hU c0 c1
      go_wp2_with fail
      refine AY1.out.mono ?_
      rintro e w2 ⟨rfl, hA, hU⟩
      have A2 := hide hA
      have U2 := hide (U1.out.trans hU)
      clear hA hU d0 d1 AY1 U1
      obtain ⟨u0, hu0⟩ : ∃ u0, u0 = s.allS := ⟨_, rfl⟩
      rw [← hu0] at A2
      have HUU := hide hu0
      clear hu0 ALX ALY WRY LCK HUS HU0 HA0 HW
      obtain ⟨x0, x1⟩ := A2.out.cells
      obtain ⟨y0, y1, y2, y3, y4, y5⟩ := HCE.out w2 U2.out
      go_wp2_with fail
      go_region_held3 (fun W' => W'.cell? ⟨P, 0, none⟩ = some (.pointer (some ⟨AX, 0, none⟩)) ∧ W'.cell? ⟨W.heap.size, 0, none⟩ = some (.int .i64 lv) ∧ W'.cell? ⟨W.heap.size, 1, none⟩ = some (.slice ha lh hc) ∧ W'.cell? ⟨W.heap.size, 2, none⟩ = some (.int .i64 ri)) (go_keep) (first | (go_at_call 23; refine (SHX.out w2.drew u0 u0 (A2.out.below (below_drew (Below.refl _ _))) (U2.out.drew)).mono ?_; rintro e wq0 ⟨rfl, hA, hU'⟩; have A0 := hide hA; have V0 : Hid (Upd (fun k => ¬ K' k) w2 wq0) := ((Upd.refl _ w2).drew).trans hU'; have U0 := hide (U2.out.trans V0.out); have q0 := (hA.cells).1; have q1 := HCE.out wq0 U0.out; obtain ⟨r0, r1, r2, r3, r4, r5⟩ := q1; clear hA hU') | fail)
      clear x0 x1 y0 y1 y2 y3 y4 y5 q0 r0 r1 r2 r3 r4 r5 V0 SHX
      obtain ⟨x0, x1⟩ := A0.out.cells
      obtain ⟨y0, y1, y2, y3, y4, y5⟩ := HCE.out wq0 U0.out
      go_wp2_with fail
      go_region_held3 (fun W' => W'.cell? ⟨P, 1, none⟩ = some (.pointer (some ⟨AY, 0, none⟩)) ∧ W'.cell? ⟨W.heap.size, 0, none⟩ = some (.int .i64 lv) ∧ W'.cell? ⟨W.heap.size, 1, none⟩ = some (.slice ha lh hc) ∧ W'.cell? ⟨W.heap.size, 2, none⟩ = some (.int .i64 ri)) (go_keep) (first | (go_at_call 35; refine (SHY.out wq0.drew (u0.hedS id lv hs ri) u0 (A0.out.below (below_drew (Below.refl _ _))) (U0.out.drew)).mono ?_; rintro e wq1 ⟨rfl, hA, hU'⟩; have A1 := hide hA; have V1 : Hid (Upd (fun k => ¬ K' k) wq0 wq1) := ((Upd.refl _ wq0).drew).trans hU'; have U1 := hide (U0.out.trans V1.out); have q0 := (hA.cells).2; have q1 := HCE.out wq1 U1.out; obtain ⟨r0, r1, r2, r3, r4, r5⟩ := q1; clear hA hU') | fail)
      clear x0 x1 y0 y1 y2 y3 y4 y5 q0 r0 r1 r2 r3 r4 r5 V1 SHY
      obtain ⟨x0, x1⟩ := A1.out.cells
      obtain ⟨y0, y1, y2, y3, y4, y5⟩ := HCE.out wq1 U1.out
      go_wp2_with fail
      go_region_held3 (fun W' => W'.cell? ⟨P, 0, none⟩ = some (.pointer (some ⟨AX, 0, none⟩)) ∧ W'.cell? ⟨W.heap.size, 3, none⟩ = some (.slice ka lk kc) ∧ W'.cell? ⟨W.heap.size, 4, none⟩ = some (.slice va lw vc) ∧ W'.cell? ⟨W.heap.size, 5, none⟩ = some (.slice ca lc cc)) (go_keep) (first | (go_at_call 24; refine (SBX.out wq1.drew (u0.hedS id lv hs ri) (u0.hedS id lv hs ri) (A1.out.below (below_drew (Below.refl _ _))) (U1.out.drew)).mono ?_; rintro e wq2 ⟨rfl, hA, hU'⟩; have A2 := hide hA; have V2 : Hid (Upd (fun k => ¬ K' k) wq1 wq2) := ((Upd.refl _ wq1).drew).trans hU'; have U2 := hide (U1.out.trans V2.out); have q0 := (hA.cells).1; have q1 := HCE.out wq2 U2.out; obtain ⟨r0, r1, r2, r3, r4, r5⟩ := q1; clear hA hU') | fail)
      clear x0 x1 y0 y1 y2 y3 y4 y5 q0 r0 r1 r2 r3 r4 r5 V2 SBX
      obtain ⟨x0, x1⟩ := A2.out.cells
      obtain ⟨y0, y1, y2, y3, y4, y5⟩ := HCE.out wq2 U2.out
      go_wp2_with fail
      go_region_held3 (fun W' => W'.cell? ⟨P, 1, none⟩ = some (.pointer (some ⟨AY, 0, none⟩)) ∧ W'.cell? ⟨W.heap.size, 3, none⟩ = some (.slice ka lk kc) ∧ W'.cell? ⟨W.heap.size, 4, none⟩ = some (.slice va lw vc) ∧ W'.cell? ⟨W.heap.size, 5, none⟩ = some (.slice ca lc cc)) (go_keep) (first | (go_at_call 36; refine (SBY.out wq2.drew ((u0.hedS id lv hs ri).bodS id kp vp C) (u0.hedS id lv hs ri) (A2.out.below (below_drew (Below.refl _ _))) (U2.out.drew)).mono ?_; rintro e wq3 ⟨rfl, hA, hU'⟩; have A3 := hide hA; have V3 : Hid (Upd (fun k => ¬ K' k) wq2 wq3) := ((Upd.refl _ wq2).drew).trans hU'; have U3 := hide (U2.out.trans V3.out); have q0 := (hA.cells).2; have q1 := HCE.out wq3 U3.out; obtain ⟨r0, r1, r2, r3, r4, r5⟩ := q1; clear hA hU') | fail)
      clear x0 x1 y0 y1 y2 y3 y4 y5 q0 r0 r1 r2 r3 r4 r5 V3 SBY
      obtain ⟨x0, x1⟩ := A3.out.cells
      go_wp2_with fail
      refine (ULX.out wq3 ((u0.hedS id lv hs ri).bodS id kp vp C) ((u0.hedS id lv hs ri).bodS id kp vp C) A3.out).mono ?_
      rintro e wq4 ⟨rfl, hA, hU'⟩
      have A4 := hide hA
      have U4 := hide (U3.out.trans hU')
      clear hA hU' x0 x1 ULX
      obtain ⟨x0, x1⟩ := A4.out.cells
      go_wp2_with fail
      refine (ULY.out wq4 (((u0.hedS id lv hs ri).bodS id kp vp C).unlS id true) ((u0.hedS id lv hs ri).bodS id kp vp C) A4.out).mono ?_
      rintro e wq5 ⟨rfl, hA, hU'⟩
      have HF := hide (HEND.out wq5 (((u0.hedS id lv hs ri).bodS id kp vp C).unlS id true) hA (U4.out.trans hU'))
      clear hA hU' x0 x1 ULY HEND
      go_wp2_with fail
      go_ret
      have := HF.out
      rw [← HFIN.out, HUU.out] at this
      simpa using this
    · rw [if_neg hroom]
      have hI : s.allI = 0 := by unfold AS.allI; rw [HM.out, if_neg hroom]
      have hE : s.allE = 2 := by unfold AS.allE; rw [HM.out, if_neg hroom]
      have hS : s.allS = s := by unfold AS.allS; rw [HM.out, if_neg hroom]
      rw [hI, hE, hS] at ALX ALY
      clear hI hE hS
      go_enter Try.func39, Try.ntmps39
      go_wp2_with fail
      rw [← HW.out]
      clear e0 e1
      refine keep HU0.out ?_
      go_wp2_with fail
      refine ALX.out.mono ?_
      rintro e w1 ⟨rfl, hA, hU⟩
      obtain ⟨d0, d1⟩ := hA.cells
      have AY1 := hide (ALY.out w1 s hA)
      have U1 := hide hU
      clear hA hU c0 c1
      go_wp2_with fail
      refine AY1.out.mono ?_
      rintro e w2 ⟨rfl, hA, hU⟩
      have HF := hide (HEND.out w2 s hA (U1.out.trans hU))
      clear hA hU d0 d1 AY1 U1
      go_wp2_with fail
      go_ret
      exact HF.out
  · rw [if_neg hgt]
    go_enter Try.func39, Try.ntmps39
    go_wp2_with fail
    rw [← HW.out]
    clear e0 e1
    refine keep HU0.out ?_
    go_wp2_with fail
    refine keep WRY.out ?_
    go_wp2_with fail
    refine LCK.out.mono ?_
    rintro e w2 ⟨rfl, hA, hU⟩
    have A2 := hide hA
    have U2 := hide hU
    clear hA hU c0 c1
    obtain ⟨u0, hu0⟩ : ∃ u0, u0 = s.lockS id (s.wordW id) := ⟨_, rfl⟩
    rw [← hu0] at A2
    have HUU := hide hu0
    clear hu0 ALX ALY WRY LCK HUS HU0 HA0 HW
    obtain ⟨x0, x1⟩ := A2.out.cells
    obtain ⟨y0, y1, y2, y3, y4, y5⟩ := HCE.out w2 U2.out
    go_wp2_with fail
    go_region_held3 (fun W' => W'.cell? ⟨P, 0, none⟩ = some (.pointer (some ⟨AX, 0, none⟩)) ∧ W'.cell? ⟨W.heap.size, 0, none⟩ = some (.int .i64 lv) ∧ W'.cell? ⟨W.heap.size, 1, none⟩ = some (.slice ha lh hc) ∧ W'.cell? ⟨W.heap.size, 2, none⟩ = some (.int .i64 ri)) (go_keep) (first | (go_at_call 23; refine (SHX.out w2.drew u0 u0 (A2.out.below (below_drew (Below.refl _ _))) (U2.out.drew)).mono ?_; rintro e wq0 ⟨rfl, hA, hU'⟩; have A0 := hide hA; have V0 : Hid (Upd (fun k => ¬ K' k) w2 wq0) := ((Upd.refl _ w2).drew).trans hU'; have U0 := hide (U2.out.trans V0.out); have q0 := (hA.cells).1; have q1 := HCE.out wq0 U0.out; obtain ⟨r0, r1, r2, r3, r4, r5⟩ := q1; clear hA hU') | fail)
    clear x0 x1 y0 y1 y2 y3 y4 y5 q0 r0 r1 r2 r3 r4 r5 V0 SHX
    obtain ⟨x0, x1⟩ := A0.out.cells
    obtain ⟨y0, y1, y2, y3, y4, y5⟩ := HCE.out wq0 U0.out
    go_wp2_with fail
    go_region_held3 (fun W' => W'.cell? ⟨P, 1, none⟩ = some (.pointer (some ⟨AY, 0, none⟩)) ∧ W'.cell? ⟨W.heap.size, 0, none⟩ = some (.int .i64 lv) ∧ W'.cell? ⟨W.heap.size, 1, none⟩ = some (.slice ha lh hc) ∧ W'.cell? ⟨W.heap.size, 2, none⟩ = some (.int .i64 ri)) (go_keep) (first | (go_at_call 35; refine (SHY.out wq0.drew (u0.hedS id lv hs ri) u0 (A0.out.below (below_drew (Below.refl _ _))) (U0.out.drew)).mono ?_; rintro e wq1 ⟨rfl, hA, hU'⟩; have A1 := hide hA; have V1 : Hid (Upd (fun k => ¬ K' k) wq0 wq1) := ((Upd.refl _ wq0).drew).trans hU'; have U1 := hide (U0.out.trans V1.out); have q0 := (hA.cells).2; have q1 := HCE.out wq1 U1.out; obtain ⟨r0, r1, r2, r3, r4, r5⟩ := q1; clear hA hU') | fail)
    clear x0 x1 y0 y1 y2 y3 y4 y5 q0 r0 r1 r2 r3 r4 r5 V1 SHY
    obtain ⟨x0, x1⟩ := A1.out.cells
    obtain ⟨y0, y1, y2, y3, y4, y5⟩ := HCE.out wq1 U1.out
    go_wp2_with fail
    go_region_held3 (fun W' => W'.cell? ⟨P, 0, none⟩ = some (.pointer (some ⟨AX, 0, none⟩)) ∧ W'.cell? ⟨W.heap.size, 3, none⟩ = some (.slice ka lk kc) ∧ W'.cell? ⟨W.heap.size, 4, none⟩ = some (.slice va lw vc) ∧ W'.cell? ⟨W.heap.size, 5, none⟩ = some (.slice ca lc cc)) (go_keep) (first | (go_at_call 24; refine (SBX.out wq1.drew (u0.hedS id lv hs ri) (u0.hedS id lv hs ri) (A1.out.below (below_drew (Below.refl _ _))) (U1.out.drew)).mono ?_; rintro e wq2 ⟨rfl, hA, hU'⟩; have A2 := hide hA; have V2 : Hid (Upd (fun k => ¬ K' k) wq1 wq2) := ((Upd.refl _ wq1).drew).trans hU'; have U2 := hide (U1.out.trans V2.out); have q0 := (hA.cells).1; have q1 := HCE.out wq2 U2.out; obtain ⟨r0, r1, r2, r3, r4, r5⟩ := q1; clear hA hU') | fail)
    clear x0 x1 y0 y1 y2 y3 y4 y5 q0 r0 r1 r2 r3 r4 r5 V2 SBX
    obtain ⟨x0, x1⟩ := A2.out.cells
    obtain ⟨y0, y1, y2, y3, y4, y5⟩ := HCE.out wq2 U2.out
    go_wp2_with fail
    go_region_held3 (fun W' => W'.cell? ⟨P, 1, none⟩ = some (.pointer (some ⟨AY, 0, none⟩)) ∧ W'.cell? ⟨W.heap.size, 3, none⟩ = some (.slice ka lk kc) ∧ W'.cell? ⟨W.heap.size, 4, none⟩ = some (.slice va lw vc) ∧ W'.cell? ⟨W.heap.size, 5, none⟩ = some (.slice ca lc cc)) (go_keep) (first | (go_at_call 36; refine (SBY.out wq2.drew ((u0.hedS id lv hs ri).bodS id kp vp C) (u0.hedS id lv hs ri) (A2.out.below (below_drew (Below.refl _ _))) (U2.out.drew)).mono ?_; rintro e wq3 ⟨rfl, hA, hU'⟩; have A3 := hide hA; have V3 : Hid (Upd (fun k => ¬ K' k) wq2 wq3) := ((Upd.refl _ wq2).drew).trans hU'; have U3 := hide (U2.out.trans V3.out); have q0 := (hA.cells).2; have q1 := HCE.out wq3 U3.out; obtain ⟨r0, r1, r2, r3, r4, r5⟩ := q1; clear hA hU') | fail)
    clear x0 x1 y0 y1 y2 y3 y4 y5 q0 r0 r1 r2 r3 r4 r5 V3 SBY
    obtain ⟨x0, x1⟩ := A3.out.cells
    go_wp2_with fail
    refine (ULX.out wq3 ((u0.hedS id lv hs ri).bodS id kp vp C) ((u0.hedS id lv hs ri).bodS id kp vp C) A3.out).mono ?_
    rintro e wq4 ⟨rfl, hA, hU'⟩
    have A4 := hide hA
    have U4 := hide (U3.out.trans hU')
    clear hA hU' x0 x1 ULX
    obtain ⟨x0, x1⟩ := A4.out.cells
    go_wp2_with fail
    refine (ULY.out wq4 (((u0.hedS id lv hs ri).bodS id kp vp C).unlS id true) ((u0.hedS id lv hs ri).bodS id kp vp C) A4.out).mono ?_
    rintro e wq5 ⟨rfl, hA, hU'⟩
    have HF := hide (HEND.out wq5 (((u0.hedS id lv hs ri).bodS id kp vp C).unlS id true) hA (U4.out.trans hU'))
    clear hA hU' x0 x1 ULY HEND
    go_wp2_with fail
    go_ret
    have := HF.out
    rw [← HFIN.out, HUU.out] at this
    simpa using this
end

end Go.Proofs.Ytfpogjgbmibmcaa
