/- The statements' Begun and lay. -/
import Derived.Test.YtmhhakahjhjhlaaGreatG21
namespace Go.Proofs.YtmhhakahjhjhlaaGreat
open Go.RowKit
set_option maxRecDepth 100000

def BegP (w : World) (nodes : Int) (e : Ending) (w' : World) : Prop :=
  ∃ P AX AY, e = .returned (.tuple #[.pointer (some ⟨P, 0, none⟩), .bool true]) ∧ AW (fun k => k < w.heap.size ∨ k = P) w' P AX AY (AS.new nodes) (AS.new nodes) ∧ Below w.heap.size w w'
set_option maxHeartbeats 800000 in
theorem begun_bad (nodes : Int) (w : World) (h : ¬ (1 ≤ nodes ∧ nodes ≤ 65536)) : Calls Tryz.prog 22 #[.int .i64 nodes] w fun e w' => e = .returned (.tuple #[.pointer none, .bool true]) ∧ w' = w := by
  have HX := hide (new_bad nodes w h)
  have HY := hide (rnew_bad nodes w h)
  clear h
  go_enter Tryz.func22, Tryz.ntmps22
  go_wp2_with fail
  refine keep HX.out ?_
  go_wp2_with fail
  refine keep HY.out ?_
  go_wp2_with fail
  go_ret2
  exact ⟨rfl, rfl⟩
set_option maxHeartbeats 800000 in
theorem begun_good (nodes : Int) (w : World) (h1 : 1 ≤ nodes) (h2 : nodes ≤ 65536) : Calls Tryz.prog 22 #[.int .i64 nodes] w (BegP w nodes) := by
  have HX := hide (px_new nodes w h1 h2)
  have HY : Hid (∀ W, Calls Tryz.prog 65 #[.int .i64 nodes] W (NewR W nodes)) := fun W => rx_new nodes W h1 h2
  clear h1 h2
  go_enter Tryz.func22, Tryz.ntmps22
  go_wp2_with fail
  refine HX.out.mono ?_
  rintro e w1 ⟨AX, FX, rfl, hp, hf, hb⟩
  have PP := hide hp
  have PF := hide hf
  have B1 := hide hb
  clear hp hf hb
  go_wp2_with fail
  refine (HY.out w1).mono ?_
  rintro e w2 ⟨AY, FY, rfl, hr, hg, hb⟩
  have RR := hide hr
  have RF := hide hg
  have B2 := hide hb
  clear hr hg hb
  go_wp2_with fail
  go_ret2
  have u1 : Upd Noth w1 (w2.alloc (.cells #[.pointer (some ⟨AX, 0, none⟩), .pointer (some ⟨AY, 0, none⟩)] 38)) := (Upd.of_below B2.out _).alloc _
  have u2 : Upd Noth w2 (w2.alloc (.cells #[.pointer (some ⟨AX, 0, none⟩), .pointer (some ⟨AY, 0, none⟩)] 38)) := (Upd.refl _ _).alloc _
  have s1 := B1.out.size
  have s2 := B2.out.size
  refine ⟨w2.heap.size, AX, AY, rfl, ⟨FX, FY, heap_alloc_new w2 _, PP.out.upd u1 (fun _ _ e => e), RR.out.upd u2 (fun _ _ e => e), ?_, ?_, .inr rfl, ?_⟩, ?_⟩
  · intro k hx hy
    have := PP.out.lt k hx
    have := RF.out k hy
    omega
  · intro k hk hK
    rcases hk with hk | hk
    · have := PP.out.lt k hk
      have := PF.out k hk
      omega
    · have := RR.out.lt k hk
      have := RF.out k hk
      omega
  · intro k hk
    simp
    omega
  · exact (B1.out.trans (B2.out.mono s1)).alloc (by omega) _

/-- A node is laid. -/
def AS.finS (u : AS) (id : Int) (p : NP) : AS := ((u.hedS id p.lv p.hi p.ri).bodS id p.ks p.vs p.cs).unlS id true
def AS.layS (s : AS) (id : Int) (p : NP) : AS :=
  if (s.sl.length : Int) < id then (if (s.sl.length : Int) < s.nodes then s.allS.finS id p else s) else (s.lockS id (s.wordW id)).finS id p
/-- A node among what is not touched. -/
theorem Nd.Ok.kept {K : Nat → Prop} {W W' : World} {n : Nd} (h : n.Ok W) (hi : n.In K) (hu : Upd (fun k => ¬ K k) W W') : n.Ok W' := h.upd hi hu (fun _ hk e => e hk)
section
variable {K : Nat → Prop} {W : World} {P AX AY : Nat} {s : AS}
set_option maxRecDepth 100000 in
set_option maxHeartbeats 6400000 in
theorem wlay_any (h : AW K W P AX AY s s) (id : Int) (n : Nd) (hn : n.Ok W) (hi : n.In K) :
    Calls Tryz.prog 81 #[.pointer (some ⟨P, 0, none⟩), .int .i64 id, n.v] W (AwPost K W P AX AY (s.layS id n.p)) := by
  obtain ⟨w0, hw0⟩ : ∃ w0, w0 = W.alloc (.cells #[.int .i64 n.lv, n.hi.v, .int .i64 n.ri, n.ks.v, n.vs.v, n.cs.v] 64) := ⟨_, rfl⟩
  have b0 : Below W.heap.size W w0 := by rw [hw0]; exact (Below.refl _ _).alloc (Nat.le_refl _) _
  have z0 : w0.heap.size = W.heap.size + 1 := by rw [hw0]; simp
  have g0 : w0.heap[W.heap.size]? = some (.cells #[.int .i64 n.lv, n.hi.v, .int .i64 n.ri, n.ks.v, n.vs.v, n.cs.v] 64 (0, 0)) := by rw [hw0]; exact heap_alloc_new W _
  obtain ⟨K', hK'⟩ : ∃ K' : Nat → Prop, K' = fun k => K k ∨ k = W.heap.size := ⟨_, rfl⟩
  have hA0 : AW K' w0 P AX AY s s := h.more b0 (fun k hk => by rw [hK'] at hk; rcases hk with hk | hk; exact .inl hk; exact .inr (by omega)) (by rw [hK']; exact .inl h.kp)
  have hn0 : n.Ok w0 := hn.below b0
  have hi0 : n.In K' := hi.mono (fun k hk => by rw [hK']; exact .inl hk)
  have kb : K' W.heap.size := by rw [hK']; exact .inr rfl
  have kk : ∀ k, K k → K' k := fun k hk => by rw [hK']; exact .inl hk
  have HEND : Hid (∀ w' u, AW K' w' P AX AY u u → Upd (fun k => ¬ K' k) w0 w' → AwPost K W P AX AY u (.returned (.bool true)) w') := fun w' u h1 h2 => ⟨rfl, h1.less kk h.kp, (kept_below b0).trans (kept_less h2 kk)⟩
  have HCE : Hid (∀ w', Upd (fun k => ¬ K' k) w0 w' → Six w' W.heap.size (.int .i64 n.lv) n.hi.v (.int .i64 n.ri) n.ks.v n.vs.v n.cs.v) := fun w' hu => Six.of (kept_heap hu g0 kb)
  have HOK : Hid (∀ w', Upd (fun k => ¬ K' k) w0 w' → n.Ok w') := fun w' hu => hn0.kept hi0 hu
  have HBW := hide h.kp
  have hl := h.len
  have HA0 := hide hA0
  have HW := hide hw0
  have HGB : Hid (w0.cell? ⟨P, 0, none⟩ = some (.pointer (some ⟨AX, 0, none⟩)) ∧ w0.cell? ⟨P, 1, none⟩ = some (.pointer (some ⟨AY, 0, none⟩))) := hA0.cells
  clear h hn hi hK' hA0 hn0 hi0 kb kk b0 g0 hw0
  -- the calls, each of a state
  have SHX : Hid (∀ w' u t, AW K' w' P AX AY u t → Upd (fun k => ¬ K' k) w0 w' → Calls Tryz.prog 75 #[.pointer (some ⟨AX, 0, none⟩), .int .i64 id, .agg #[.int .i64 n.lv, n.hi.v, .int .i64 n.ri]] w' fun e w'' => e = .returned (.int .i64 (u.unlE id)) ∧ AW K' w'' P AX AY (u.hedS id n.lv n.hi.s n.ri) t ∧ Upd (fun k => ¬ K' k) w' w'') := fun w' u t hw hu => hw.X (fun F hp => px_setH hp id n.lv n.ri n.hi (HOK.out w' hu).h)
  have SHY : Hid (∀ w' u t, AW K' w' P AX AY u t → Upd (fun k => ¬ K' k) w0 w' → Calls Tryz.prog 76 #[.pointer (some ⟨AY, 0, none⟩), .int .i64 id, .agg #[.int .i64 n.lv, n.hi.v, .int .i64 n.ri]] w' fun e w'' => e = .returned (.int .i64 (t.unlE id)) ∧ AW K' w'' P AX AY u (t.hedS id n.lv n.hi.s n.ri) ∧ Upd (fun k => ¬ K' k) w' w'') := fun w' u t hw hu => hw.Y (fun F hp => rx_setH hp id n.lv n.ri n.hi (HOK.out w' hu).h)
  have SBX : Hid (∀ w' u t, AW K' w' P AX AY u t → Upd (fun k => ¬ K' k) w0 w' → Calls Tryz.prog 77 #[.pointer (some ⟨AX, 0, none⟩), .int .i64 id, .agg #[n.ks.v, n.vs.v, n.cs.v]] w' fun e w'' => e = .returned (.int .i64 (u.unlE id)) ∧ AW K' w'' P AX AY (u.bodS id n.ks.p n.vs.p n.cs.s) t ∧ Upd (fun k => ¬ K' k) w' w'') := fun w' u t hw hu => hw.X (fun F hp => px_setB hp id n.ks n.vs n.cs (HOK.out w' hu).k (HOK.out w' hu).v (HOK.out w' hu).c (HOK.out w' hu).kz (HOK.out w' hu).vz (HOK.out w' hu).cz)
  have SBY : Hid (∀ w' u t, AW K' w' P AX AY u t → Upd (fun k => ¬ K' k) w0 w' → Calls Tryz.prog 78 #[.pointer (some ⟨AY, 0, none⟩), .int .i64 id, .agg #[n.ks.v, n.vs.v, n.cs.v]] w' fun e w'' => e = .returned (.int .i64 (t.unlE id)) ∧ AW K' w'' P AX AY u (t.bodS id n.ks.p n.vs.p n.cs.s) ∧ Upd (fun k => ¬ K' k) w' w'') := fun w' u t hw hu => hw.Y (fun F hp => rx_setB hp id n.ks n.vs n.cs (HOK.out w' hu).k (HOK.out w' hu).v (HOK.out w' hu).c (HOK.out w' hu).kz (HOK.out w' hu).vz (HOK.out w' hu).cz)
  have ULX : Hid (∀ w' u t, AW K' w' P AX AY u t → Calls Tryz.prog 73 #[.pointer (some ⟨AX, 0, none⟩), .int .i64 id, .bool true] w' fun e w'' => e = .returned (.int .i64 (u.unlE id)) ∧ AW K' w'' P AX AY (u.unlS id true) t ∧ Upd (fun k => ¬ K' k) w' w'') := fun w' u t hw => hw.X (fun F hp => px_unlock hp id true)
  have ULY : Hid (∀ w' u t, AW K' w' P AX AY u t → Calls Tryz.prog 74 #[.pointer (some ⟨AY, 0, none⟩), .int .i64 id, .bool true] w' fun e w'' => e = .returned (.int .i64 (t.unlE id)) ∧ AW K' w'' P AX AY u (t.unlS id true) ∧ Upd (fun k => ¬ K' k) w' w'') := fun w' u t hw => hw.Y (fun F hp => rx_unlock hp id true)
  have HUS : Hid (∀ w', AW K' w' P AX AY s s → Calls Tryz.prog 26 #[.pointer (some ⟨AY, 0, none⟩)] w' fun e w'' => e = .returned (.int .i64 (s.sl.length : Nat)) ∧ w'' = w') := fun w' hw => aw_usedY hw
  have HU0 := hide (HUS.out w0 HA0.out)
  have ALX := hide (HA0.out.X (fun F hp => px_alloc hp))
  have ALY : Hid (∀ w' u, AW K' w' P AX AY u s → Calls Tryz.prog 69 #[.pointer (some ⟨AY, 0, none⟩)] w' fun e w'' => e = .returned (.tuple #[.int .i64 s.allI, .int .i64 s.allE]) ∧ AW K' w'' P AX AY u s.allS ∧ Upd (fun k => ¬ K' k) w' w'') := fun w' u hw => hw.Y (fun F hp => rx_alloc hp)
  have WRY := hide (aw_wordY HA0.out id)
  have LCK := hide (wlock_any HA0.out id (s.wordW id) (HA0.out.wlt id))
  have HFIN : Hid (∀ u : AS, u.finS id n.p = ((u.hedS id n.lv n.hi.s n.ri).bodS id n.ks.p n.vs.p n.cs.s).unlS id true) := fun u => rfl
  have HLAY : Hid (s.layS id n.p = if (s.sl.length : Int) < id then (if (s.sl.length : Int) < s.nodes then s.allS.finS id n.p else s) else (s.lockS id (s.wordW id)).finS id n.p) := rfl
  rw [HLAY.out]
  clear HLAY HOK
  obtain ⟨lv, ⟨ha, hc, hs⟩, ri, ⟨ka, kc, KL⟩, ⟨va, vc, V⟩, ⟨ca, cc, C⟩⟩ := n
  simp only [Nd.v, Tx.v, TL.v, IL.v] at HW HCE SHX SHY SBX SBY ⊢
  generalize Nd.p ⟨lv, ⟨ha, hc, hs⟩, ri, ⟨ka, kc, KL⟩, ⟨va, vc, V⟩, ⟨ca, cc, C⟩⟩ = np at *
  generalize hs.length = lh at *
  generalize KL.length = lk at *
  generalize V.length = lw at *
  generalize C.length = lc at *
  generalize TL.p ⟨ka, kc, KL⟩ = kp at *
  generalize TL.p ⟨va, vc, V⟩ = vp at *
  have Z0 := hide z0
  obtain ⟨m, hm⟩ : ∃ m, s.sl.length = m := ⟨_, rfl⟩
  rw [hm] at HU0 hl
  have HM := hide hm
  rw [hm]
  clear hm z0
  obtain ⟨c0, c1⟩ := HGB.out
  have e0 := c0
  have e1 := c1
  rw [HW.out] at e0 e1
  by_cases hgt : (m : Int) < id
  · rw [if_pos hgt]
    by_cases hroom : (m : Int) < s.nodes
    · rw [if_pos hroom]
      have hI : s.allI = (m : Int) + 1 := by unfold AS.allI; rw [HM.out, if_pos hroom]
      have hE : s.allE = 0 := by unfold AS.allE; rw [HM.out, if_pos hroom]
      rw [hI, hE] at ALX ALY
      clear hI hE
      go_enter Tryz.func81, Tryz.ntmps81
      go_wp2_with fail
      rw [← HW.out]
      clear e0 e1
      refine keep HU0.out ?_
      go_wp2_with fail
      refine ALX.out.mono ?_
      rintro e w1 ⟨rfl, hA, hU⟩
      obtain ⟨d0, d1⟩ := hA.cells
      have AY1 := hide (ALY.out w1 s.allS hA)
      have U1 := hide hU
      clear hA hU c0 c1
      go_wp2_with fail
      refine AY1.out.mono ?_
      rintro e w2 ⟨rfl, hA, hU⟩
      have A2 := hide hA
      have U2 := hide (U1.out.trans hU)
      clear hA hU d0 d1 AY1 U1
      obtain ⟨u0, hu0⟩ : ∃ u0, u0 = s.allS := ⟨_, rfl⟩
      rw [← hu0] at A2
      have HUU := hide hu0
      clear hu0 ALX ALY WRY LCK HUS HU0 HA0 HW
      obtain ⟨x0, x1⟩ := A2.out.cells
      obtain ⟨y0, y1, y2, y3, y4, y5⟩ := HCE.out w2 U2.out
      go_wp2_with fail
      go_region_held3 (fun W' => W'.cell? ⟨P, 0, none⟩ = some (.pointer (some ⟨AX, 0, none⟩)) ∧ W'.cell? ⟨W.heap.size, 0, none⟩ = some (.int .i64 lv) ∧ W'.cell? ⟨W.heap.size, 1, none⟩ = some (.slice ha lh hc) ∧ W'.cell? ⟨W.heap.size, 2, none⟩ = some (.int .i64 ri)) (go_keep) (first | (go_at_call 75; refine (SHX.out w2.drew u0 u0 (A2.out.below (below_drew (Below.refl _ _))) (U2.out.drew)).mono ?_; rintro e wq0 ⟨rfl, hA, hU'⟩; have A0 := hide hA; have V0 : Hid (Upd (fun k => ¬ K' k) w2 wq0) := ((Upd.refl _ w2).drew).trans hU'; have U0 := hide (U2.out.trans V0.out); have q0 := (hA.cells).1; have q1 := HCE.out wq0 U0.out; obtain ⟨r0, r1, r2, r3, r4, r5⟩ := q1; clear hA hU') | fail)
      clear x0 x1 y0 y1 y2 y3 y4 y5 q0 r0 r1 r2 r3 r4 r5 V0 SHX
      obtain ⟨x0, x1⟩ := A0.out.cells
      obtain ⟨y0, y1, y2, y3, y4, y5⟩ := HCE.out wq0 U0.out
      go_wp2_with fail
      go_region_held3 (fun W' => W'.cell? ⟨P, 1, none⟩ = some (.pointer (some ⟨AY, 0, none⟩)) ∧ W'.cell? ⟨W.heap.size, 0, none⟩ = some (.int .i64 lv) ∧ W'.cell? ⟨W.heap.size, 1, none⟩ = some (.slice ha lh hc) ∧ W'.cell? ⟨W.heap.size, 2, none⟩ = some (.int .i64 ri)) (go_keep) (first | (go_at_call 76; refine (SHY.out wq0.drew (u0.hedS id lv hs ri) u0 (A0.out.below (below_drew (Below.refl _ _))) (U0.out.drew)).mono ?_; rintro e wq1 ⟨rfl, hA, hU'⟩; have A1 := hide hA; have V1 : Hid (Upd (fun k => ¬ K' k) wq0 wq1) := ((Upd.refl _ wq0).drew).trans hU'; have U1 := hide (U0.out.trans V1.out); have q0 := (hA.cells).2; have q1 := HCE.out wq1 U1.out; obtain ⟨r0, r1, r2, r3, r4, r5⟩ := q1; clear hA hU') | fail)
      clear x0 x1 y0 y1 y2 y3 y4 y5 q0 r0 r1 r2 r3 r4 r5 V1 SHY
      obtain ⟨x0, x1⟩ := A1.out.cells
      obtain ⟨y0, y1, y2, y3, y4, y5⟩ := HCE.out wq1 U1.out
      go_wp2_with fail
      go_region_held3 (fun W' => W'.cell? ⟨P, 0, none⟩ = some (.pointer (some ⟨AX, 0, none⟩)) ∧ W'.cell? ⟨W.heap.size, 3, none⟩ = some (.slice ka lk kc) ∧ W'.cell? ⟨W.heap.size, 4, none⟩ = some (.slice va lw vc) ∧ W'.cell? ⟨W.heap.size, 5, none⟩ = some (.slice ca lc cc)) (go_keep) (first | (go_at_call 77; refine (SBX.out wq1.drew (u0.hedS id lv hs ri) (u0.hedS id lv hs ri) (A1.out.below (below_drew (Below.refl _ _))) (U1.out.drew)).mono ?_; rintro e wq2 ⟨rfl, hA, hU'⟩; have A2 := hide hA; have V2 : Hid (Upd (fun k => ¬ K' k) wq1 wq2) := ((Upd.refl _ wq1).drew).trans hU'; have U2 := hide (U1.out.trans V2.out); have q0 := (hA.cells).1; have q1 := HCE.out wq2 U2.out; obtain ⟨r0, r1, r2, r3, r4, r5⟩ := q1; clear hA hU') | fail)
      clear x0 x1 y0 y1 y2 y3 y4 y5 q0 r0 r1 r2 r3 r4 r5 V2 SBX
      obtain ⟨x0, x1⟩ := A2.out.cells
      obtain ⟨y0, y1, y2, y3, y4, y5⟩ := HCE.out wq2 U2.out
      go_wp2_with fail
      go_region_held3 (fun W' => W'.cell? ⟨P, 1, none⟩ = some (.pointer (some ⟨AY, 0, none⟩)) ∧ W'.cell? ⟨W.heap.size, 3, none⟩ = some (.slice ka lk kc) ∧ W'.cell? ⟨W.heap.size, 4, none⟩ = some (.slice va lw vc) ∧ W'.cell? ⟨W.heap.size, 5, none⟩ = some (.slice ca lc cc)) (go_keep) (first | (go_at_call 78; refine (SBY.out wq2.drew ((u0.hedS id lv hs ri).bodS id kp vp C) (u0.hedS id lv hs ri) (A2.out.below (below_drew (Below.refl _ _))) (U2.out.drew)).mono ?_; rintro e wq3 ⟨rfl, hA, hU'⟩; have A3 := hide hA; have V3 : Hid (Upd (fun k => ¬ K' k) wq2 wq3) := ((Upd.refl _ wq2).drew).trans hU'; have U3 := hide (U2.out.trans V3.out); have q0 := (hA.cells).2; have q1 := HCE.out wq3 U3.out; obtain ⟨r0, r1, r2, r3, r4, r5⟩ := q1; clear hA hU') | fail)
      clear x0 x1 y0 y1 y2 y3 y4 y5 q0 r0 r1 r2 r3 r4 r5 V3 SBY
      obtain ⟨x0, x1⟩ := A3.out.cells
      go_wp2_with fail
      refine (ULX.out wq3 ((u0.hedS id lv hs ri).bodS id kp vp C) ((u0.hedS id lv hs ri).bodS id kp vp C) A3.out).mono ?_
      rintro e wq4 ⟨rfl, hA, hU'⟩
      have A4 := hide hA
      have U4 := hide (U3.out.trans hU')
      clear hA hU' x0 x1 ULX
      obtain ⟨x0, x1⟩ := A4.out.cells
      go_wp2_with fail
      refine (ULY.out wq4 (((u0.hedS id lv hs ri).bodS id kp vp C).unlS id true) ((u0.hedS id lv hs ri).bodS id kp vp C) A4.out).mono ?_
      rintro e wq5 ⟨rfl, hA, hU'⟩
      have HF := hide (HEND.out wq5 (((u0.hedS id lv hs ri).bodS id kp vp C).unlS id true) hA (U4.out.trans hU'))
      clear hA hU' x0 x1 ULY HEND
      go_wp2_with fail
      go_ret
      have := HF.out
      rw [← HFIN.out, HUU.out] at this
      simpa using this
    · rw [if_neg hroom]
      have hI : s.allI = 0 := by unfold AS.allI; rw [HM.out, if_neg hroom]
      have hE : s.allE = 2 := by unfold AS.allE; rw [HM.out, if_neg hroom]
      have hS : s.allS = s := by unfold AS.allS; rw [HM.out, if_neg hroom]
      rw [hI, hE, hS] at ALX ALY
      clear hI hE hS
      go_enter Tryz.func81, Tryz.ntmps81
      go_wp2_with fail
      rw [← HW.out]
      clear e0 e1
      refine keep HU0.out ?_
      go_wp2_with fail
      refine ALX.out.mono ?_
      rintro e w1 ⟨rfl, hA, hU⟩
      obtain ⟨d0, d1⟩ := hA.cells
      have AY1 := hide (ALY.out w1 s hA)
      have U1 := hide hU
      clear hA hU c0 c1
      go_wp2_with fail
      refine AY1.out.mono ?_
      rintro e w2 ⟨rfl, hA, hU⟩
      have HF := hide (HEND.out w2 s hA (U1.out.trans hU))
      clear hA hU d0 d1 AY1 U1
      go_wp2_with fail
      go_ret
      exact HF.out
  · rw [if_neg hgt]
    go_enter Tryz.func81, Tryz.ntmps81
    go_wp2_with fail
    rw [← HW.out]
    clear e0 e1
    refine keep HU0.out ?_
    go_wp2_with fail
    refine keep WRY.out ?_
    go_wp2_with fail
    refine LCK.out.mono ?_
    rintro e w2 ⟨rfl, hA, hU⟩
    have A2 := hide hA
    have U2 := hide hU
    clear hA hU c0 c1
    obtain ⟨u0, hu0⟩ : ∃ u0, u0 = s.lockS id (s.wordW id) := ⟨_, rfl⟩
    rw [← hu0] at A2
    have HUU := hide hu0
    clear hu0 ALX ALY WRY LCK HUS HU0 HA0 HW
    obtain ⟨x0, x1⟩ := A2.out.cells
    obtain ⟨y0, y1, y2, y3, y4, y5⟩ := HCE.out w2 U2.out
    go_wp2_with fail
    go_region_held3 (fun W' => W'.cell? ⟨P, 0, none⟩ = some (.pointer (some ⟨AX, 0, none⟩)) ∧ W'.cell? ⟨W.heap.size, 0, none⟩ = some (.int .i64 lv) ∧ W'.cell? ⟨W.heap.size, 1, none⟩ = some (.slice ha lh hc) ∧ W'.cell? ⟨W.heap.size, 2, none⟩ = some (.int .i64 ri)) (go_keep) (first | (go_at_call 75; refine (SHX.out w2.drew u0 u0 (A2.out.below (below_drew (Below.refl _ _))) (U2.out.drew)).mono ?_; rintro e wq0 ⟨rfl, hA, hU'⟩; have A0 := hide hA; have V0 : Hid (Upd (fun k => ¬ K' k) w2 wq0) := ((Upd.refl _ w2).drew).trans hU'; have U0 := hide (U2.out.trans V0.out); have q0 := (hA.cells).1; have q1 := HCE.out wq0 U0.out; obtain ⟨r0, r1, r2, r3, r4, r5⟩ := q1; clear hA hU') | fail)
    clear x0 x1 y0 y1 y2 y3 y4 y5 q0 r0 r1 r2 r3 r4 r5 V0 SHX
    obtain ⟨x0, x1⟩ := A0.out.cells
    obtain ⟨y0, y1, y2, y3, y4, y5⟩ := HCE.out wq0 U0.out
    go_wp2_with fail
    go_region_held3 (fun W' => W'.cell? ⟨P, 1, none⟩ = some (.pointer (some ⟨AY, 0, none⟩)) ∧ W'.cell? ⟨W.heap.size, 0, none⟩ = some (.int .i64 lv) ∧ W'.cell? ⟨W.heap.size, 1, none⟩ = some (.slice ha lh hc) ∧ W'.cell? ⟨W.heap.size, 2, none⟩ = some (.int .i64 ri)) (go_keep) (first | (go_at_call 76; refine (SHY.out wq0.drew (u0.hedS id lv hs ri) u0 (A0.out.below (below_drew (Below.refl _ _))) (U0.out.drew)).mono ?_; rintro e wq1 ⟨rfl, hA, hU'⟩; have A1 := hide hA; have V1 : Hid (Upd (fun k => ¬ K' k) wq0 wq1) := ((Upd.refl _ wq0).drew).trans hU'; have U1 := hide (U0.out.trans V1.out); have q0 := (hA.cells).2; have q1 := HCE.out wq1 U1.out; obtain ⟨r0, r1, r2, r3, r4, r5⟩ := q1; clear hA hU') | fail)
    clear x0 x1 y0 y1 y2 y3 y4 y5 q0 r0 r1 r2 r3 r4 r5 V1 SHY
    obtain ⟨x0, x1⟩ := A1.out.cells
    obtain ⟨y0, y1, y2, y3, y4, y5⟩ := HCE.out wq1 U1.out
    go_wp2_with fail
    go_region_held3 (fun W' => W'.cell? ⟨P, 0, none⟩ = some (.pointer (some ⟨AX, 0, none⟩)) ∧ W'.cell? ⟨W.heap.size, 3, none⟩ = some (.slice ka lk kc) ∧ W'.cell? ⟨W.heap.size, 4, none⟩ = some (.slice va lw vc) ∧ W'.cell? ⟨W.heap.size, 5, none⟩ = some (.slice ca lc cc)) (go_keep) (first | (go_at_call 77; refine (SBX.out wq1.drew (u0.hedS id lv hs ri) (u0.hedS id lv hs ri) (A1.out.below (below_drew (Below.refl _ _))) (U1.out.drew)).mono ?_; rintro e wq2 ⟨rfl, hA, hU'⟩; have A2 := hide hA; have V2 : Hid (Upd (fun k => ¬ K' k) wq1 wq2) := ((Upd.refl _ wq1).drew).trans hU'; have U2 := hide (U1.out.trans V2.out); have q0 := (hA.cells).1; have q1 := HCE.out wq2 U2.out; obtain ⟨r0, r1, r2, r3, r4, r5⟩ := q1; clear hA hU') | fail)
    clear x0 x1 y0 y1 y2 y3 y4 y5 q0 r0 r1 r2 r3 r4 r5 V2 SBX
    obtain ⟨x0, x1⟩ := A2.out.cells
    obtain ⟨y0, y1, y2, y3, y4, y5⟩ := HCE.out wq2 U2.out
    go_wp2_with fail
    go_region_held3 (fun W' => W'.cell? ⟨P, 1, none⟩ = some (.pointer (some ⟨AY, 0, none⟩)) ∧ W'.cell? ⟨W.heap.size, 3, none⟩ = some (.slice ka lk kc) ∧ W'.cell? ⟨W.heap.size, 4, none⟩ = some (.slice va lw vc) ∧ W'.cell? ⟨W.heap.size, 5, none⟩ = some (.slice ca lc cc)) (go_keep) (first | (go_at_call 78; refine (SBY.out wq2.drew ((u0.hedS id lv hs ri).bodS id kp vp C) (u0.hedS id lv hs ri) (A2.out.below (below_drew (Below.refl _ _))) (U2.out.drew)).mono ?_; rintro e wq3 ⟨rfl, hA, hU'⟩; have A3 := hide hA; have V3 : Hid (Upd (fun k => ¬ K' k) wq2 wq3) := ((Upd.refl _ wq2).drew).trans hU'; have U3 := hide (U2.out.trans V3.out); have q0 := (hA.cells).2; have q1 := HCE.out wq3 U3.out; obtain ⟨r0, r1, r2, r3, r4, r5⟩ := q1; clear hA hU') | fail)
    clear x0 x1 y0 y1 y2 y3 y4 y5 q0 r0 r1 r2 r3 r4 r5 V3 SBY
    obtain ⟨x0, x1⟩ := A3.out.cells
    go_wp2_with fail
    refine (ULX.out wq3 ((u0.hedS id lv hs ri).bodS id kp vp C) ((u0.hedS id lv hs ri).bodS id kp vp C) A3.out).mono ?_
    rintro e wq4 ⟨rfl, hA, hU'⟩
    have A4 := hide hA
    have U4 := hide (U3.out.trans hU')
    clear hA hU' x0 x1 ULX
    obtain ⟨x0, x1⟩ := A4.out.cells
    go_wp2_with fail
    refine (ULY.out wq4 (((u0.hedS id lv hs ri).bodS id kp vp C).unlS id true) ((u0.hedS id lv hs ri).bodS id kp vp C) A4.out).mono ?_
    rintro e wq5 ⟨rfl, hA, hU'⟩
    have HF := hide (HEND.out wq5 (((u0.hedS id lv hs ri).bodS id kp vp C).unlS id true) hA (U4.out.trans hU'))
    clear hA hU' x0 x1 ULY HEND
    go_wp2_with fail
    go_ret
    have := HF.out
    rw [← HFIN.out, HUU.out] at this
    simpa using this
end

end Go.Proofs.YtmhhakahjhjhlaaGreat

namespace Go.Proofs.YtmhhakahjhjhlaaGreat
open Go.RowKit
set_option maxRecDepth 100000

/-- A call, as it is told. -/
structure AOp where
  kind : Int
  a : Int
  b : Int
  w : Nat
  ch : Bool
  n : Nd
def AOp.v (o : AOp) : Value := .agg #[.int .i64 o.kind, .int .i64 o.a, .int .i64 o.b, .int .u64 (o.w : Nat), .bool o.ch, .int .i64 o.n.lv, o.n.hi.v, .int .i64 o.n.ri, o.n.ks.v, o.n.vs.v, o.n.cs.v]
structure AOp.Ok (K : Nat → Prop) (W : World) (o : AOp) : Prop where
  k1 : -9223372036854775808 ≤ o.kind ∧ o.kind ≤ 9223372036854775807
  a1 : -9223372036854775808 ≤ o.a ∧ o.a ≤ 9223372036854775807
  b1 : -9223372036854775808 ≤ o.b ∧ o.b ≤ 9223372036854775807
  w1 : o.w < 18446744073709551616
  n : o.n.Ok W
  i : o.n.In K
theorem AOp.Ok.kept {K : Nat → Prop} {W W' : World} {o : AOp} (h : o.Ok K W) (hu : Upd (fun k => ¬ K k) W W') : o.Ok K W' := ⟨h.k1, h.a1, h.b1, h.w1, h.n.kept h.i hu, h.i⟩
/-- A sum of words. -/
def wadd (a b : Nat) : Nat := (a + b) % 18446744073709551616
theorem wadd_lt (a b : Nat) : wadd a b < 18446744073709551616 := Nat.mod_lt _ (by decide)
theorem wadd_eq (a b : Nat) : IntKind.u64.wrap ((a : Int) + (b : Int)) = ((wadd a b : Nat) : Int) := by
  rw [IntKind.wrap_u64]
  unfold wadd
  omega
/-- The number that is meant; what stands behind a call. -/
def AS.id (s : AS) (c : Int) : Int := ((pickN c (s.sl.length + 2) : Nat) : Int)
def AS.raw (s : AS) (o : AOp) : AS :=
  if pickN o.kind 9 = 0 then s.allS else if pickN o.kind 9 = 1 then s else if pickN o.kind 9 = 2 then s.lockS (s.id o.a) (wadd (s.wordW (s.id o.a)) (pickN o.b 3)) else
  if pickN o.kind 9 = 3 then s.unlS (s.id o.a) o.ch else if pickN o.kind 9 = 4 then s.hedS (s.id o.a) o.n.lv o.n.hi.s o.n.ri else if pickN o.kind 9 = 5 then s.bodS (s.id o.a) o.n.ks.p o.n.vs.p o.n.cs.s else
  if pickN o.kind 9 = 6 then s.groS (s.id o.a) (s.id o.b) else if pickN o.kind 9 = 7 then s.layS (1 + ((pickN o.a (s.sl.length + 1) : Nat) : Int)) o.n.p else s.lockS (s.id o.a) o.w
theorem row_cell {W : World} {b : Nat} {T : TypeId} {cs : Array Value} {v : Value} (h : W.heap[b]? = some (.cells cs T (0, 0))) (j : Nat) (hj : cs[j]? = some v) : W.cell? ⟨b, j, none⟩ = some v := by rw [cell_of_row _ _ _ _ _ _ h]; exact hj
section
variable {K : Nat → Prop} {W : World} {P AX AY : Nat} {s : AS}
set_option maxRecDepth 100000 in
set_option maxHeartbeats 3200000 in
theorem raw0 (h : AW K W P AX AY s s) (o : AOp) (ho : o.Ok K W) (hk : pickN o.kind 9 = 0) : Calls Tryz.prog 23 #[.pointer (some ⟨P, 0, none⟩), o.v] W (AwPost K W P AX AY s.allS) := by
  obtain ⟨kd, ra, rb, rw', ch, n⟩ := o
  obtain ⟨⟨k1, k2⟩, ⟨a1, a2⟩, ⟨b1, b2⟩, w1, hn, hi⟩ := ho
  simp only at hk k1 k2 a1 a2 b1 b2 w1 hn hi
  simp only [AOp.v]
  have hid : s.id ra = ((pickN ra (s.sl.length + 2) : Nat) : Int) := rfl
  obtain ⟨w0, hw0⟩ : ∃ w0, w0 = W.alloc (.cells #[.int .i64 kd, .int .i64 ra, .int .i64 rb, .int .u64 (rw' : Nat), .bool ch, .int .i64 n.lv, n.hi.v, .int .i64 n.ri, n.ks.v, n.vs.v, n.cs.v] 66) := ⟨_, rfl⟩
  have b0 : Below W.heap.size W w0 := by rw [hw0]; exact (Below.refl _ _).alloc (Nat.le_refl _) _
  have z0 : w0.heap.size = W.heap.size + 1 := by rw [hw0]; simp
  have g0 : w0.heap[W.heap.size]? = some (.cells #[.int .i64 kd, .int .i64 ra, .int .i64 rb, .int .u64 (rw' : Nat), .bool ch, .int .i64 n.lv, n.hi.v, .int .i64 n.ri, n.ks.v, n.vs.v, n.cs.v] 66 (0, 0)) := by rw [hw0]; exact heap_alloc_new W _
  obtain ⟨K', hK'⟩ : ∃ K' : Nat → Prop, K' = fun k => K k ∨ k = W.heap.size := ⟨_, rfl⟩
  have hA0 : AW K' w0 P AX AY s s := h.more b0 (fun k hk => by rw [hK'] at hk; rcases hk with hk | hk; exact .inl hk; exact .inr (by omega)) (by rw [hK']; exact .inl h.kp)
  have hi0 : n.In K' := hi.mono (fun k hk => by rw [hK']; exact .inl hk)
  have kb : K' W.heap.size := by rw [hK']; exact .inr rfl
  have kk : ∀ k, K k → K' k := fun k hk => by rw [hK']; exact .inl hk
  have HEND : Hid (∀ w' u, AW K' w' P AX AY u u → Upd (fun k => ¬ K' k) w0 w' → AwPost K W P AX AY u (.returned (.bool true)) w') := fun w' u h1 h2 => ⟨rfl, h1.less kk h.kp, (kept_below b0).trans (kept_less h2 kk)⟩
  have HCE : Hid (∀ w', Upd (fun k => ¬ K' k) w0 w' → w'.heap[W.heap.size]? = some (.cells #[.int .i64 kd, .int .i64 ra, .int .i64 rb, .int .u64 (rw' : Nat), .bool ch, .int .i64 n.lv, n.hi.v, .int .i64 n.ri, n.ks.v, n.vs.v, n.cs.v] 66 (0, 0))) := fun w' hu => kept_heap hu g0 kb
  have HOK : Hid (∀ w', Upd (fun k => ¬ K' k) w0 w' → n.Ok w') := fun w' hu => (hn.below b0).kept hi0 hu
  have HIN := hide hi0
  have HU0 : Hid (Upd (fun k => ¬ K' k) w0 w0) := Upd.refl _ _
  have HID := hide (wid_any hA0 ra a1 a2)
  have HIDB := hide (wid_any hA0 rb b1 b2)
  have HPK := hide (pick_any kd 9 w0 (by decide) (by decide) k1 k2)
  rw [hk, show (((0 : Nat)) : Int) = 0 from rfl, show (((9 : Nat)) : Int) = 9 from rfl] at HPK
  have HLEN := hide hA0.len
  obtain ⟨c0, c1⟩ := hA0.cells
  rw [← hid] at HID
  have HA0 := hide hA0
  have HW := hide hw0
  clear h hn hi hK' hA0 hi0 kb kk b0 hw0 z0 k1 k2 hk hid
  have ALX := hide (HA0.out.X (fun F hp => px_alloc hp))
  have ALY : Hid (∀ w' u, AW K' w' P AX AY u s → Calls Tryz.prog 69 #[.pointer (some ⟨AY, 0, none⟩)] w' fun e w'' => e = .returned (.tuple #[.int .i64 s.allI, .int .i64 s.allE]) ∧ AW K' w'' P AX AY u s.allS ∧ Upd (fun k => ¬ K' k) w' w'') := fun w' u hw => hw.Y (fun F hp => rx_alloc hp)
  obtain ⟨lv, ⟨ha, hc, hs⟩, ri, ⟨ka, kc, KL⟩, ⟨va, vc, V⟩, ⟨ca, cc, C⟩⟩ := n
  simp only [Tx.v, TL.v, IL.v] at *
  generalize hs.length = lh at *
  generalize KL.length = lk at *
  generalize V.length = lw at *
  generalize C.length = lc at *
  generalize s.allI = ai at *
  generalize s.allE = ae at *
  have y0 : w0.cell? ⟨W.heap.size, 0, none⟩ = some (.int .i64 kd) := row_cell g0 0 rfl
  have y1 : w0.cell? ⟨W.heap.size, 1, none⟩ = some (.int .i64 ra) := row_cell g0 1 rfl
  have y2 : w0.cell? ⟨W.heap.size, 2, none⟩ = some (.int .i64 rb) := row_cell g0 2 rfl
  have y3 : w0.cell? ⟨W.heap.size, 3, none⟩ = some (.int .u64 (rw' : Nat)) := row_cell g0 3 rfl
  have y4 : w0.cell? ⟨W.heap.size, 4, none⟩ = some (.bool ch) := row_cell g0 4 rfl
  have y5 : w0.cell? ⟨W.heap.size, 5, none⟩ = some (.int .i64 lv) := row_cell g0 5 rfl
  have y6 : w0.cell? ⟨W.heap.size, 6, none⟩ = some (.slice ha lh hc) := row_cell g0 6 rfl
  have y7 : w0.cell? ⟨W.heap.size, 7, none⟩ = some (.int .i64 ri) := row_cell g0 7 rfl
  have y8 : w0.cell? ⟨W.heap.size, 8, none⟩ = some (.slice ka lk kc) := row_cell g0 8 rfl
  have y9 : w0.cell? ⟨W.heap.size, 9, none⟩ = some (.slice va lw vc) := row_cell g0 9 rfl
  have y10 : w0.cell? ⟨W.heap.size, 10, none⟩ = some (.slice ca lc cc) := row_cell g0 10 rfl
  clear g0
  generalize s.id ra = id at *
  go_enter Tryz.func23, Tryz.ntmps23
  go_wp2_with fail
  rw [← HW.out]
  refine keep HID.out ?_
  go_wp2_with fail
  refine keep HPK.out ?_
  go_wp2_with fail
  refine ALX.out.mono ?_
  rintro e w1 ⟨rfl, hA, hU⟩
  obtain ⟨d0, d1⟩ := hA.cells
  have AY1 := hide (ALY.out w1 _ hA)
  have U1 := hide hU
  clear hA hU c0 c1
  go_wp2_with fail
  refine AY1.out.mono ?_
  rintro e w2 ⟨rfl, hA, hU⟩
  have HF := hide (HEND.out w2 _ hA (U1.out.trans hU))
  clear hA hU HEND
  go_wp2_with fail
  go_ret
  have := HF.out
  simpa using this
set_option maxRecDepth 100000 in
set_option maxHeartbeats 3200000 in
theorem raw1 (h : AW K W P AX AY s s) (o : AOp) (ho : o.Ok K W) (hk : pickN o.kind 9 = 1) : Calls Tryz.prog 23 #[.pointer (some ⟨P, 0, none⟩), o.v] W (AwPost K W P AX AY s) := by
  obtain ⟨kd, ra, rb, rw', ch, n⟩ := o
  obtain ⟨⟨k1, k2⟩, ⟨a1, a2⟩, ⟨b1, b2⟩, w1, hn, hi⟩ := ho
  simp only at hk k1 k2 a1 a2 b1 b2 w1 hn hi
  simp only [AOp.v]
  have hid : s.id ra = ((pickN ra (s.sl.length + 2) : Nat) : Int) := rfl
  obtain ⟨w0, hw0⟩ : ∃ w0, w0 = W.alloc (.cells #[.int .i64 kd, .int .i64 ra, .int .i64 rb, .int .u64 (rw' : Nat), .bool ch, .int .i64 n.lv, n.hi.v, .int .i64 n.ri, n.ks.v, n.vs.v, n.cs.v] 66) := ⟨_, rfl⟩
  have b0 : Below W.heap.size W w0 := by rw [hw0]; exact (Below.refl _ _).alloc (Nat.le_refl _) _
  have z0 : w0.heap.size = W.heap.size + 1 := by rw [hw0]; simp
  have g0 : w0.heap[W.heap.size]? = some (.cells #[.int .i64 kd, .int .i64 ra, .int .i64 rb, .int .u64 (rw' : Nat), .bool ch, .int .i64 n.lv, n.hi.v, .int .i64 n.ri, n.ks.v, n.vs.v, n.cs.v] 66 (0, 0)) := by rw [hw0]; exact heap_alloc_new W _
  obtain ⟨K', hK'⟩ : ∃ K' : Nat → Prop, K' = fun k => K k ∨ k = W.heap.size := ⟨_, rfl⟩
  have hA0 : AW K' w0 P AX AY s s := h.more b0 (fun k hk => by rw [hK'] at hk; rcases hk with hk | hk; exact .inl hk; exact .inr (by omega)) (by rw [hK']; exact .inl h.kp)
  have hi0 : n.In K' := hi.mono (fun k hk => by rw [hK']; exact .inl hk)
  have kb : K' W.heap.size := by rw [hK']; exact .inr rfl
  have kk : ∀ k, K k → K' k := fun k hk => by rw [hK']; exact .inl hk
  have HEND : Hid (∀ w' u, AW K' w' P AX AY u u → Upd (fun k => ¬ K' k) w0 w' → AwPost K W P AX AY u (.returned (.bool true)) w') := fun w' u h1 h2 => ⟨rfl, h1.less kk h.kp, (kept_below b0).trans (kept_less h2 kk)⟩
  have HCE : Hid (∀ w', Upd (fun k => ¬ K' k) w0 w' → w'.heap[W.heap.size]? = some (.cells #[.int .i64 kd, .int .i64 ra, .int .i64 rb, .int .u64 (rw' : Nat), .bool ch, .int .i64 n.lv, n.hi.v, .int .i64 n.ri, n.ks.v, n.vs.v, n.cs.v] 66 (0, 0))) := fun w' hu => kept_heap hu g0 kb
  have HOK : Hid (∀ w', Upd (fun k => ¬ K' k) w0 w' → n.Ok w') := fun w' hu => (hn.below b0).kept hi0 hu
  have HIN := hide hi0
  have HU0 : Hid (Upd (fun k => ¬ K' k) w0 w0) := Upd.refl _ _
  have HID := hide (wid_any hA0 ra a1 a2)
  have HIDB := hide (wid_any hA0 rb b1 b2)
  have HPK := hide (pick_any kd 9 w0 (by decide) (by decide) k1 k2)
  rw [hk, show (((1 : Nat)) : Int) = 1 from rfl, show (((9 : Nat)) : Int) = 9 from rfl] at HPK
  have HLEN := hide hA0.len
  obtain ⟨c0, c1⟩ := hA0.cells
  rw [← hid] at HID
  have HA0 := hide hA0
  have HW := hide hw0
  clear h hn hi hK' hA0 hi0 kb kk b0 hw0 z0 k1 k2 hk hid
  have WX : Hid (∀ w', AW K' w' P AX AY s s → Calls Tryz.prog 70 #[.pointer (some ⟨AX, 0, none⟩), .int .i64 ra] w' fun e w'' => e = .returned (.tuple #[.int .u64 (s.wordW ra : Nat), .int .i64 (s.wordE ra)]) ∧ AW K' w'' P AX AY s s ∧ Upd (fun k => ¬ K' k) w' w'') := fun w' hw => (aw_wordX hw ra).mono fun e w'' ⟨h1, h2⟩ => ⟨h1, by rw [h2]; exact hw, by rw [h2]; exact Upd.refl _ _⟩
  have WY : Hid (∀ w', AW K' w' P AX AY s s → Calls Tryz.prog 71 #[.pointer (some ⟨AY, 0, none⟩), .int .i64 ra] w' fun e w'' => e = .returned (.tuple #[.int .u64 (s.wordW ra : Nat), .int .i64 (s.wordE ra)]) ∧ AW K' w'' P AX AY s s ∧ Upd (fun k => ¬ K' k) w' w'') := fun w' hw => (aw_wordY hw ra).mono fun e w'' ⟨h1, h2⟩ => ⟨h1, by rw [h2]; exact hw, by rw [h2]; exact Upd.refl _ _⟩
  obtain ⟨lv, ⟨ha, hc, hs⟩, ri, ⟨ka, kc, KL⟩, ⟨va, vc, V⟩, ⟨ca, cc, C⟩⟩ := n
  simp only [Tx.v, TL.v, IL.v] at *
  generalize hs.length = lh at *
  generalize KL.length = lk at *
  generalize V.length = lw at *
  generalize C.length = lc at *
  generalize s.wordW ra = ww at *
  generalize s.wordE ra = we at *
  have y0 : w0.cell? ⟨W.heap.size, 0, none⟩ = some (.int .i64 kd) := row_cell g0 0 rfl
  have y1 : w0.cell? ⟨W.heap.size, 1, none⟩ = some (.int .i64 ra) := row_cell g0 1 rfl
  have y2 : w0.cell? ⟨W.heap.size, 2, none⟩ = some (.int .i64 rb) := row_cell g0 2 rfl
  have y3 : w0.cell? ⟨W.heap.size, 3, none⟩ = some (.int .u64 (rw' : Nat)) := row_cell g0 3 rfl
  have y4 : w0.cell? ⟨W.heap.size, 4, none⟩ = some (.bool ch) := row_cell g0 4 rfl
  have y5 : w0.cell? ⟨W.heap.size, 5, none⟩ = some (.int .i64 lv) := row_cell g0 5 rfl
  have y6 : w0.cell? ⟨W.heap.size, 6, none⟩ = some (.slice ha lh hc) := row_cell g0 6 rfl
  have y7 : w0.cell? ⟨W.heap.size, 7, none⟩ = some (.int .i64 ri) := row_cell g0 7 rfl
  have y8 : w0.cell? ⟨W.heap.size, 8, none⟩ = some (.slice ka lk kc) := row_cell g0 8 rfl
  have y9 : w0.cell? ⟨W.heap.size, 9, none⟩ = some (.slice va lw vc) := row_cell g0 9 rfl
  have y10 : w0.cell? ⟨W.heap.size, 10, none⟩ = some (.slice ca lc cc) := row_cell g0 10 rfl
  clear g0
  generalize s.id ra = id at *
  go_enter Tryz.func23, Tryz.ntmps23
  go_wp2_with fail
  rw [← HW.out]
  refine keep HID.out ?_
  go_wp2_with fail
  refine keep HPK.out ?_
  go_wp2_with fail
  go_region_held3 (fun W' => W'.cell? ⟨P, 0, none⟩ = some (.pointer (some ⟨AX, 0, none⟩)) ∧ W'.cell? ⟨W.heap.size, 1, none⟩ = some (.int .i64 ra)) (go_keep) (first
    | (go_at_call 70; refine (WX.out w0.drew (HA0.out.below (below_drew (Below.refl _ _)))).mono ?_; rintro e w1 ⟨rfl, hA, hU⟩; have A1 := hide hA; have U1 : Hid (Upd (fun k => ¬ K' k) w0 w1) := ((Upd.refl _ w0).drew).trans hU; obtain ⟨d0, d1⟩ := hA.cells; have z1 := row_cell (HCE.out w1 U1.out) 1 rfl; clear hA hU)
    | fail)
  clear c0 c1 y0 y1 y2 y3 y4 y5 y6 y7 y8 y9 y10
  go_wp2_with fail
  go_region_held3 (fun W' => W'.cell? ⟨P, 1, none⟩ = some (.pointer (some ⟨AY, 0, none⟩)) ∧ W'.cell? ⟨W.heap.size, 1, none⟩ = some (.int .i64 ra)) (go_keep) (first
    | (go_at_call 71; refine (WY.out w1.drew (A1.out.below (below_drew (Below.refl _ _)))).mono ?_; rintro e w2 ⟨rfl, hA, hU⟩; have A2 := hide hA; have U2 := hide (U1.out.trans (((Upd.refl _ w1).drew).trans hU)); obtain ⟨f0, f1⟩ := hA.cells; have v1 := row_cell (HCE.out w2 U2.out) 1 rfl; clear hA hU)
    | fail)
  have HF := hide (HEND.out w2 _ A2.out U2.out)
  clear HEND d0 d1 z1 f0 f1 v1
  go_wp2_with fail
  go_ret
  have := HF.out
  simpa using this
end

end Go.Proofs.YtmhhakahjhjhlaaGreat

namespace Go.Proofs.YtmhhakahjhjhlaaGreat
open Go.RowKit
set_option maxRecDepth 100000
section
variable {K : Nat → Prop} {W : World} {P AX AY : Nat} {s : AS}
set_option maxRecDepth 100000 in
set_option maxHeartbeats 3200000 in
theorem raw2 (h : AW K W P AX AY s s) (o : AOp) (ho : o.Ok K W) (hk : pickN o.kind 9 = 2) : Calls Tryz.prog 23 #[.pointer (some ⟨P, 0, none⟩), o.v] W (AwPost K W P AX AY (s.lockS (s.id o.a) (wadd (s.wordW (s.id o.a)) (pickN o.b 3)))) := by
  obtain ⟨kd, ra, rb, rw', ch, n⟩ := o
  obtain ⟨⟨k1, k2⟩, ⟨a1, a2⟩, ⟨b1, b2⟩, w1, hn, hi⟩ := ho
  simp only at hk k1 k2 a1 a2 b1 b2 w1 hn hi
  simp only [AOp.v]
  have hid : s.id ra = ((pickN ra (s.sl.length + 2) : Nat) : Int) := rfl
  obtain ⟨w0, hw0⟩ : ∃ w0, w0 = W.alloc (.cells #[.int .i64 kd, .int .i64 ra, .int .i64 rb, .int .u64 (rw' : Nat), .bool ch, .int .i64 n.lv, n.hi.v, .int .i64 n.ri, n.ks.v, n.vs.v, n.cs.v] 66) := ⟨_, rfl⟩
  have b0 : Below W.heap.size W w0 := by rw [hw0]; exact (Below.refl _ _).alloc (Nat.le_refl _) _
  have z0 : w0.heap.size = W.heap.size + 1 := by rw [hw0]; simp
  have g0 : w0.heap[W.heap.size]? = some (.cells #[.int .i64 kd, .int .i64 ra, .int .i64 rb, .int .u64 (rw' : Nat), .bool ch, .int .i64 n.lv, n.hi.v, .int .i64 n.ri, n.ks.v, n.vs.v, n.cs.v] 66 (0, 0)) := by rw [hw0]; exact heap_alloc_new W _
  obtain ⟨K', hK'⟩ : ∃ K' : Nat → Prop, K' = fun k => K k ∨ k = W.heap.size := ⟨_, rfl⟩
  have hA0 : AW K' w0 P AX AY s s := h.more b0 (fun k hk => by rw [hK'] at hk; rcases hk with hk | hk; exact .inl hk; exact .inr (by omega)) (by rw [hK']; exact .inl h.kp)
  have hi0 : n.In K' := hi.mono (fun k hk => by rw [hK']; exact .inl hk)
  have kb : K' W.heap.size := by rw [hK']; exact .inr rfl
  have kk : ∀ k, K k → K' k := fun k hk => by rw [hK']; exact .inl hk
  have HEND : Hid (∀ w' u, AW K' w' P AX AY u u → Upd (fun k => ¬ K' k) w0 w' → AwPost K W P AX AY u (.returned (.bool true)) w') := fun w' u h1 h2 => ⟨rfl, h1.less kk h.kp, (kept_below b0).trans (kept_less h2 kk)⟩
  have HCE : Hid (∀ w', Upd (fun k => ¬ K' k) w0 w' → w'.heap[W.heap.size]? = some (.cells #[.int .i64 kd, .int .i64 ra, .int .i64 rb, .int .u64 (rw' : Nat), .bool ch, .int .i64 n.lv, n.hi.v, .int .i64 n.ri, n.ks.v, n.vs.v, n.cs.v] 66 (0, 0))) := fun w' hu => kept_heap hu g0 kb
  have HOK : Hid (∀ w', Upd (fun k => ¬ K' k) w0 w' → n.Ok w') := fun w' hu => (hn.below b0).kept hi0 hu
  have HIN := hide hi0
  have HU0 : Hid (Upd (fun k => ¬ K' k) w0 w0) := Upd.refl _ _
  have HID := hide (wid_any hA0 ra a1 a2)
  have HIDB := hide (wid_any hA0 rb b1 b2)
  have HPK := hide (pick_any kd 9 w0 (by decide) (by decide) k1 k2)
  rw [hk, show (((2 : Nat)) : Int) = 2 from rfl, show (((9 : Nat)) : Int) = 9 from rfl] at HPK
  have HLEN := hide hA0.len
  obtain ⟨c0, c1⟩ := hA0.cells
  rw [← hid] at HID
  have HA0 := hide hA0
  have HW := hide hw0
  clear h hn hi hK' hA0 hi0 kb kk b0 hw0 z0 k1 k2 hk hid
  have WY := hide (aw_wordY HA0.out (s.id ra))
  have HPB := hide (pick_any rb 3 w0 (by decide) (by decide) b1 b2)
  rw [show (((3 : Nat)) : Int) = 3 from rfl] at HPB
  have hpb := pickN_lt rb 3 (by decide)
  have LCK := hide (wlock_any HA0.out (s.id ra) (wadd (s.wordW (s.id ra)) (pickN rb 3)) (wadd_lt _ _))
  have HNM := hide (wadd_eq (s.wordW (s.id ra)) (pickN rb 3))
  obtain ⟨lv, ⟨ha, hc, hs⟩, ri, ⟨ka, kc, KL⟩, ⟨va, vc, V⟩, ⟨ca, cc, C⟩⟩ := n
  simp only [Tx.v, TL.v, IL.v] at *
  generalize hs.length = lh at *
  generalize KL.length = lk at *
  generalize V.length = lw at *
  generalize C.length = lc at *
  generalize wadd (s.wordW (s.id ra)) (pickN rb 3) = xx at *
  generalize s.wordW (s.id ra) = ww at *
  generalize s.wordE (s.id ra) = we at *
  generalize pickN rb 3 = pb at *
  have y0 : w0.cell? ⟨W.heap.size, 0, none⟩ = some (.int .i64 kd) := row_cell g0 0 rfl
  have y1 : w0.cell? ⟨W.heap.size, 1, none⟩ = some (.int .i64 ra) := row_cell g0 1 rfl
  have y2 : w0.cell? ⟨W.heap.size, 2, none⟩ = some (.int .i64 rb) := row_cell g0 2 rfl
  have y3 : w0.cell? ⟨W.heap.size, 3, none⟩ = some (.int .u64 (rw' : Nat)) := row_cell g0 3 rfl
  have y4 : w0.cell? ⟨W.heap.size, 4, none⟩ = some (.bool ch) := row_cell g0 4 rfl
  have y5 : w0.cell? ⟨W.heap.size, 5, none⟩ = some (.int .i64 lv) := row_cell g0 5 rfl
  have y6 : w0.cell? ⟨W.heap.size, 6, none⟩ = some (.slice ha lh hc) := row_cell g0 6 rfl
  have y7 : w0.cell? ⟨W.heap.size, 7, none⟩ = some (.int .i64 ri) := row_cell g0 7 rfl
  have y8 : w0.cell? ⟨W.heap.size, 8, none⟩ = some (.slice ka lk kc) := row_cell g0 8 rfl
  have y9 : w0.cell? ⟨W.heap.size, 9, none⟩ = some (.slice va lw vc) := row_cell g0 9 rfl
  have y10 : w0.cell? ⟨W.heap.size, 10, none⟩ = some (.slice ca lc cc) := row_cell g0 10 rfl
  clear g0
  generalize s.id ra = id at *
  go_enter Tryz.func23, Tryz.ntmps23
  go_wp2_with fail
  rw [← HW.out]
  refine keep HID.out ?_
  go_wp2_with fail
  refine keep HPK.out ?_
  go_wp2_with fail
  refine keep WY.out ?_
  go_wp2_with fail
  refine keep HPB.out ?_
  go_wp2_with fail
  rw [HNM.out]
  refine LCK.out.mono ?_
  rintro e w2 ⟨rfl, hA, hU⟩
  have HF := hide (HEND.out w2 _ hA hU)
  clear hA hU HEND
  go_wp2_with fail
  go_ret
  exact HF.out
set_option maxRecDepth 100000 in
set_option maxHeartbeats 3200000 in
theorem raw3 (h : AW K W P AX AY s s) (o : AOp) (ho : o.Ok K W) (hk : pickN o.kind 9 = 3) : Calls Tryz.prog 23 #[.pointer (some ⟨P, 0, none⟩), o.v] W (AwPost K W P AX AY (s.unlS (s.id o.a) o.ch)) := by
  obtain ⟨kd, ra, rb, rw', ch, n⟩ := o
  obtain ⟨⟨k1, k2⟩, ⟨a1, a2⟩, ⟨b1, b2⟩, w1, hn, hi⟩ := ho
  simp only at hk k1 k2 a1 a2 b1 b2 w1 hn hi
  simp only [AOp.v]
  have hid : s.id ra = ((pickN ra (s.sl.length + 2) : Nat) : Int) := rfl
  obtain ⟨w0, hw0⟩ : ∃ w0, w0 = W.alloc (.cells #[.int .i64 kd, .int .i64 ra, .int .i64 rb, .int .u64 (rw' : Nat), .bool ch, .int .i64 n.lv, n.hi.v, .int .i64 n.ri, n.ks.v, n.vs.v, n.cs.v] 66) := ⟨_, rfl⟩
  have b0 : Below W.heap.size W w0 := by rw [hw0]; exact (Below.refl _ _).alloc (Nat.le_refl _) _
  have z0 : w0.heap.size = W.heap.size + 1 := by rw [hw0]; simp
  have g0 : w0.heap[W.heap.size]? = some (.cells #[.int .i64 kd, .int .i64 ra, .int .i64 rb, .int .u64 (rw' : Nat), .bool ch, .int .i64 n.lv, n.hi.v, .int .i64 n.ri, n.ks.v, n.vs.v, n.cs.v] 66 (0, 0)) := by rw [hw0]; exact heap_alloc_new W _
  obtain ⟨K', hK'⟩ : ∃ K' : Nat → Prop, K' = fun k => K k ∨ k = W.heap.size := ⟨_, rfl⟩
  have hA0 : AW K' w0 P AX AY s s := h.more b0 (fun k hk => by rw [hK'] at hk; rcases hk with hk | hk; exact .inl hk; exact .inr (by omega)) (by rw [hK']; exact .inl h.kp)
  have hi0 : n.In K' := hi.mono (fun k hk => by rw [hK']; exact .inl hk)
  have kb : K' W.heap.size := by rw [hK']; exact .inr rfl
  have kk : ∀ k, K k → K' k := fun k hk => by rw [hK']; exact .inl hk
  have HEND : Hid (∀ w' u, AW K' w' P AX AY u u → Upd (fun k => ¬ K' k) w0 w' → AwPost K W P AX AY u (.returned (.bool true)) w') := fun w' u h1 h2 => ⟨rfl, h1.less kk h.kp, (kept_below b0).trans (kept_less h2 kk)⟩
  have HCE : Hid (∀ w', Upd (fun k => ¬ K' k) w0 w' → w'.heap[W.heap.size]? = some (.cells #[.int .i64 kd, .int .i64 ra, .int .i64 rb, .int .u64 (rw' : Nat), .bool ch, .int .i64 n.lv, n.hi.v, .int .i64 n.ri, n.ks.v, n.vs.v, n.cs.v] 66 (0, 0))) := fun w' hu => kept_heap hu g0 kb
  have HOK : Hid (∀ w', Upd (fun k => ¬ K' k) w0 w' → n.Ok w') := fun w' hu => (hn.below b0).kept hi0 hu
  have HIN := hide hi0
  have HU0 : Hid (Upd (fun k => ¬ K' k) w0 w0) := Upd.refl _ _
  have HID := hide (wid_any hA0 ra a1 a2)
  have HIDB := hide (wid_any hA0 rb b1 b2)
  have HPK := hide (pick_any kd 9 w0 (by decide) (by decide) k1 k2)
  rw [hk, show (((3 : Nat)) : Int) = 3 from rfl, show (((9 : Nat)) : Int) = 9 from rfl] at HPK
  have HLEN := hide hA0.len
  obtain ⟨c0, c1⟩ := hA0.cells
  rw [← hid] at HID
  have HA0 := hide hA0
  have HW := hide hw0
  clear h hn hi hK' hA0 hi0 kb kk b0 hw0 z0 k1 k2 hk hid
  have CX : Hid (∀ w', AW K' w' P AX AY s s → Upd (fun k => ¬ K' k) w0 w' → Calls Tryz.prog 73 #[.pointer (some ⟨AX, 0, none⟩), .int .i64 (s.id ra), .bool ch] w' fun e w'' => e = .returned (.int .i64 (s.unlE (s.id ra))) ∧ AW K' w'' P AX AY (s.unlS (s.id ra) ch) s ∧ Upd (fun k => ¬ K' k) w' w'') := fun w' hw _ => hw.X (fun F hp => px_unlock hp (s.id ra) ch)
  have CY : Hid (∀ w' u, AW K' w' P AX AY u s → Upd (fun k => ¬ K' k) w0 w' → Calls Tryz.prog 74 #[.pointer (some ⟨AY, 0, none⟩), .int .i64 (s.id ra), .bool ch] w' fun e w'' => e = .returned (.int .i64 (s.unlE (s.id ra))) ∧ AW K' w'' P AX AY u (s.unlS (s.id ra) ch) ∧ Upd (fun k => ¬ K' k) w' w'') := fun w' u hw _ => hw.Y (fun F hp => rx_unlock hp (s.id ra) ch)
  obtain ⟨lv, ⟨ha, hc, hs⟩, ri, ⟨ka, kc, KL⟩, ⟨va, vc, V⟩, ⟨ca, cc, C⟩⟩ := n
  simp only [Tx.v, TL.v, IL.v] at *
  generalize s.unlE (s.id ra) = ue at *
  generalize hs.length = lh at *
  generalize KL.length = lk at *
  generalize V.length = lw at *
  generalize C.length = lc at *
  have y0 : w0.cell? ⟨W.heap.size, 0, none⟩ = some (.int .i64 kd) := row_cell g0 0 rfl
  have y1 : w0.cell? ⟨W.heap.size, 1, none⟩ = some (.int .i64 ra) := row_cell g0 1 rfl
  have y2 : w0.cell? ⟨W.heap.size, 2, none⟩ = some (.int .i64 rb) := row_cell g0 2 rfl
  have y3 : w0.cell? ⟨W.heap.size, 3, none⟩ = some (.int .u64 (rw' : Nat)) := row_cell g0 3 rfl
  have y4 : w0.cell? ⟨W.heap.size, 4, none⟩ = some (.bool ch) := row_cell g0 4 rfl
  have y5 : w0.cell? ⟨W.heap.size, 5, none⟩ = some (.int .i64 lv) := row_cell g0 5 rfl
  have y6 : w0.cell? ⟨W.heap.size, 6, none⟩ = some (.slice ha lh hc) := row_cell g0 6 rfl
  have y7 : w0.cell? ⟨W.heap.size, 7, none⟩ = some (.int .i64 ri) := row_cell g0 7 rfl
  have y8 : w0.cell? ⟨W.heap.size, 8, none⟩ = some (.slice ka lk kc) := row_cell g0 8 rfl
  have y9 : w0.cell? ⟨W.heap.size, 9, none⟩ = some (.slice va lw vc) := row_cell g0 9 rfl
  have y10 : w0.cell? ⟨W.heap.size, 10, none⟩ = some (.slice ca lc cc) := row_cell g0 10 rfl
  clear g0
  generalize s.id ra = id at *
  go_enter Tryz.func23, Tryz.ntmps23
  go_wp2_with fail
  rw [← HW.out]
  refine keep HID.out ?_
  go_wp2_with fail
  refine keep HPK.out ?_
  go_wp2_with fail
  go_region_held3 (fun W' => W'.cell? ⟨P, 0, none⟩ = some (.pointer (some ⟨AX, 0, none⟩)) ∧ W'.cell? ⟨P, 1, none⟩ = some (.pointer (some ⟨AY, 0, none⟩)) ∧ W'.cell? ⟨W.heap.size, 4, none⟩ = some (.bool ch)) (go_keep) (first
    | (go_at_call 74; refine (CY.out w1 _ A1.out U1.out).mono ?_; rintro e w2 ⟨rfl, hA, hU⟩; have A2 := hide hA; have U2 := hide (U1.out.trans hU); obtain ⟨f0, f1⟩ := hA.cells; have t4 := row_cell (HCE.out w2 U2.out) 4 rfl; clear hA hU)
    | (go_at_call 73; refine (CX.out w0.drew (HA0.out.below (below_drew (Below.refl _ _))) (HU0.out.drew)).mono ?_; rintro e w1 ⟨rfl, hA, hU⟩; have A1 := hide hA; have U1 : Hid (Upd (fun k => ¬ K' k) w0 w1) := ((Upd.refl _ w0).drew).trans hU; obtain ⟨d0, d1⟩ := hA.cells; have u4 := row_cell (HCE.out w1 U1.out) 4 rfl; clear hA hU)
    | fail)
  have HF := hide (HEND.out w2 _ A2.out U2.out)
  clear HEND d0 d1 f0 f1
  go_wp2_with fail
  go_ret
  have := HF.out
  simpa using this
end

end Go.Proofs.YtmhhakahjhjhlaaGreat

namespace Go.Proofs.YtmhhakahjhjhlaaGreat
open Go.RowKit
set_option maxRecDepth 100000
section
variable {K : Nat → Prop} {W : World} {P AX AY : Nat} {s : AS}
set_option maxRecDepth 100000 in
set_option maxHeartbeats 3200000 in
theorem raw4 (h : AW K W P AX AY s s) (o : AOp) (ho : o.Ok K W) (hk : pickN o.kind 9 = 4) : Calls Tryz.prog 23 #[.pointer (some ⟨P, 0, none⟩), o.v] W (AwPost K W P AX AY (s.hedS (s.id o.a) o.n.lv o.n.hi.s o.n.ri)) := by
  obtain ⟨kd, ra, rb, rw', ch, n⟩ := o
  obtain ⟨⟨k1, k2⟩, ⟨a1, a2⟩, ⟨b1, b2⟩, w1, hn, hi⟩ := ho
  simp only at hk k1 k2 a1 a2 b1 b2 w1 hn hi
  simp only [AOp.v]
  have hid : s.id ra = ((pickN ra (s.sl.length + 2) : Nat) : Int) := rfl
  obtain ⟨w0, hw0⟩ : ∃ w0, w0 = W.alloc (.cells #[.int .i64 kd, .int .i64 ra, .int .i64 rb, .int .u64 (rw' : Nat), .bool ch, .int .i64 n.lv, n.hi.v, .int .i64 n.ri, n.ks.v, n.vs.v, n.cs.v] 66) := ⟨_, rfl⟩
  have b0 : Below W.heap.size W w0 := by rw [hw0]; exact (Below.refl _ _).alloc (Nat.le_refl _) _
  have z0 : w0.heap.size = W.heap.size + 1 := by rw [hw0]; simp
  have g0 : w0.heap[W.heap.size]? = some (.cells #[.int .i64 kd, .int .i64 ra, .int .i64 rb, .int .u64 (rw' : Nat), .bool ch, .int .i64 n.lv, n.hi.v, .int .i64 n.ri, n.ks.v, n.vs.v, n.cs.v] 66 (0, 0)) := by rw [hw0]; exact heap_alloc_new W _
  obtain ⟨K', hK'⟩ : ∃ K' : Nat → Prop, K' = fun k => K k ∨ k = W.heap.size := ⟨_, rfl⟩
  have hA0 : AW K' w0 P AX AY s s := h.more b0 (fun k hk => by rw [hK'] at hk; rcases hk with hk | hk; exact .inl hk; exact .inr (by omega)) (by rw [hK']; exact .inl h.kp)
  have hi0 : n.In K' := hi.mono (fun k hk => by rw [hK']; exact .inl hk)
  have kb : K' W.heap.size := by rw [hK']; exact .inr rfl
  have kk : ∀ k, K k → K' k := fun k hk => by rw [hK']; exact .inl hk
  have HEND : Hid (∀ w' u, AW K' w' P AX AY u u → Upd (fun k => ¬ K' k) w0 w' → AwPost K W P AX AY u (.returned (.bool true)) w') := fun w' u h1 h2 => ⟨rfl, h1.less kk h.kp, (kept_below b0).trans (kept_less h2 kk)⟩
  have HCE : Hid (∀ w', Upd (fun k => ¬ K' k) w0 w' → w'.heap[W.heap.size]? = some (.cells #[.int .i64 kd, .int .i64 ra, .int .i64 rb, .int .u64 (rw' : Nat), .bool ch, .int .i64 n.lv, n.hi.v, .int .i64 n.ri, n.ks.v, n.vs.v, n.cs.v] 66 (0, 0))) := fun w' hu => kept_heap hu g0 kb
  have HOK : Hid (∀ w', Upd (fun k => ¬ K' k) w0 w' → n.Ok w') := fun w' hu => (hn.below b0).kept hi0 hu
  have HIN := hide hi0
  have HU0 : Hid (Upd (fun k => ¬ K' k) w0 w0) := Upd.refl _ _
  have HID := hide (wid_any hA0 ra a1 a2)
  have HIDB := hide (wid_any hA0 rb b1 b2)
  have HPK := hide (pick_any kd 9 w0 (by decide) (by decide) k1 k2)
  rw [hk, show (((4 : Nat)) : Int) = 4 from rfl, show (((9 : Nat)) : Int) = 9 from rfl] at HPK
  have HLEN := hide hA0.len
  obtain ⟨c0, c1⟩ := hA0.cells
  rw [← hid] at HID
  have HA0 := hide hA0
  have HW := hide hw0
  clear h hn hi hK' hA0 hi0 kb kk b0 hw0 z0 k1 k2 hk hid
  have CX : Hid (∀ w', AW K' w' P AX AY s s → Upd (fun k => ¬ K' k) w0 w' → Calls Tryz.prog 75 #[.pointer (some ⟨AX, 0, none⟩), .int .i64 (s.id ra), .agg #[.int .i64 n.lv, n.hi.v, .int .i64 n.ri]] w' fun e w'' => e = .returned (.int .i64 (s.unlE (s.id ra))) ∧ AW K' w'' P AX AY (s.hedS (s.id ra) n.lv n.hi.s n.ri) s ∧ Upd (fun k => ¬ K' k) w' w'') := fun w' hw hu => hw.X (fun F hp => px_setH hp (s.id ra) n.lv n.ri n.hi (HOK.out w' hu).h)
  have CY : Hid (∀ w' u, AW K' w' P AX AY u s → Upd (fun k => ¬ K' k) w0 w' → Calls Tryz.prog 76 #[.pointer (some ⟨AY, 0, none⟩), .int .i64 (s.id ra), .agg #[.int .i64 n.lv, n.hi.v, .int .i64 n.ri]] w' fun e w'' => e = .returned (.int .i64 (s.unlE (s.id ra))) ∧ AW K' w'' P AX AY u (s.hedS (s.id ra) n.lv n.hi.s n.ri) ∧ Upd (fun k => ¬ K' k) w' w'') := fun w' u hw hu => hw.Y (fun F hp => rx_setH hp (s.id ra) n.lv n.ri n.hi (HOK.out w' hu).h)
  obtain ⟨lv, ⟨ha, hc, hs⟩, ri, ⟨ka, kc, KL⟩, ⟨va, vc, V⟩, ⟨ca, cc, C⟩⟩ := n
  simp only [Tx.v, TL.v, IL.v] at *
  generalize s.unlE (s.id ra) = ue at *
  generalize hs.length = lh at *
  generalize KL.length = lk at *
  generalize V.length = lw at *
  generalize C.length = lc at *
  have y0 : w0.cell? ⟨W.heap.size, 0, none⟩ = some (.int .i64 kd) := row_cell g0 0 rfl
  have y1 : w0.cell? ⟨W.heap.size, 1, none⟩ = some (.int .i64 ra) := row_cell g0 1 rfl
  have y2 : w0.cell? ⟨W.heap.size, 2, none⟩ = some (.int .i64 rb) := row_cell g0 2 rfl
  have y3 : w0.cell? ⟨W.heap.size, 3, none⟩ = some (.int .u64 (rw' : Nat)) := row_cell g0 3 rfl
  have y4 : w0.cell? ⟨W.heap.size, 4, none⟩ = some (.bool ch) := row_cell g0 4 rfl
  have y5 : w0.cell? ⟨W.heap.size, 5, none⟩ = some (.int .i64 lv) := row_cell g0 5 rfl
  have y6 : w0.cell? ⟨W.heap.size, 6, none⟩ = some (.slice ha lh hc) := row_cell g0 6 rfl
  have y7 : w0.cell? ⟨W.heap.size, 7, none⟩ = some (.int .i64 ri) := row_cell g0 7 rfl
  have y8 : w0.cell? ⟨W.heap.size, 8, none⟩ = some (.slice ka lk kc) := row_cell g0 8 rfl
  have y9 : w0.cell? ⟨W.heap.size, 9, none⟩ = some (.slice va lw vc) := row_cell g0 9 rfl
  have y10 : w0.cell? ⟨W.heap.size, 10, none⟩ = some (.slice ca lc cc) := row_cell g0 10 rfl
  clear g0
  generalize s.id ra = id at *
  go_enter Tryz.func23, Tryz.ntmps23
  go_wp2_with fail
  rw [← HW.out]
  refine keep HID.out ?_
  go_wp2_with fail
  refine keep HPK.out ?_
  go_wp2_with fail
  go_region_held3 (fun W' => W'.cell? ⟨P, 0, none⟩ = some (.pointer (some ⟨AX, 0, none⟩)) ∧ W'.cell? ⟨P, 1, none⟩ = some (.pointer (some ⟨AY, 0, none⟩)) ∧ W'.cell? ⟨W.heap.size, 5, none⟩ = some (.int .i64 lv) ∧ W'.cell? ⟨W.heap.size, 6, none⟩ = some (.slice ha lh hc) ∧ W'.cell? ⟨W.heap.size, 7, none⟩ = some (.int .i64 ri)) (go_keep) (first
    | (go_at_call 76; refine (CY.out w1 _ A1.out U1.out).mono ?_; rintro e w2 ⟨rfl, hA, hU⟩; have A2 := hide hA; have U2 := hide (U1.out.trans hU); obtain ⟨f0, f1⟩ := hA.cells; have t5 := row_cell (HCE.out w2 U2.out) 5 rfl; have t6 := row_cell (HCE.out w2 U2.out) 6 rfl; have t7 := row_cell (HCE.out w2 U2.out) 7 rfl; clear hA hU)
    | (go_at_call 75; refine (CX.out w0.drew (HA0.out.below (below_drew (Below.refl _ _))) (HU0.out.drew)).mono ?_; rintro e w1 ⟨rfl, hA, hU⟩; have A1 := hide hA; have U1 : Hid (Upd (fun k => ¬ K' k) w0 w1) := ((Upd.refl _ w0).drew).trans hU; obtain ⟨d0, d1⟩ := hA.cells; have u5 := row_cell (HCE.out w1 U1.out) 5 rfl; have u6 := row_cell (HCE.out w1 U1.out) 6 rfl; have u7 := row_cell (HCE.out w1 U1.out) 7 rfl; clear hA hU)
    | fail)
  have HF := hide (HEND.out w2 _ A2.out U2.out)
  clear HEND d0 d1 f0 f1
  go_wp2_with fail
  go_ret
  have := HF.out
  simpa using this
set_option maxRecDepth 100000 in
set_option maxHeartbeats 3200000 in
theorem raw5 (h : AW K W P AX AY s s) (o : AOp) (ho : o.Ok K W) (hk : pickN o.kind 9 = 5) : Calls Tryz.prog 23 #[.pointer (some ⟨P, 0, none⟩), o.v] W (AwPost K W P AX AY (s.bodS (s.id o.a) o.n.ks.p o.n.vs.p o.n.cs.s)) := by
  obtain ⟨kd, ra, rb, rw', ch, n⟩ := o
  obtain ⟨⟨k1, k2⟩, ⟨a1, a2⟩, ⟨b1, b2⟩, w1, hn, hi⟩ := ho
  simp only at hk k1 k2 a1 a2 b1 b2 w1 hn hi
  simp only [AOp.v]
  have hid : s.id ra = ((pickN ra (s.sl.length + 2) : Nat) : Int) := rfl
  obtain ⟨w0, hw0⟩ : ∃ w0, w0 = W.alloc (.cells #[.int .i64 kd, .int .i64 ra, .int .i64 rb, .int .u64 (rw' : Nat), .bool ch, .int .i64 n.lv, n.hi.v, .int .i64 n.ri, n.ks.v, n.vs.v, n.cs.v] 66) := ⟨_, rfl⟩
  have b0 : Below W.heap.size W w0 := by rw [hw0]; exact (Below.refl _ _).alloc (Nat.le_refl _) _
  have z0 : w0.heap.size = W.heap.size + 1 := by rw [hw0]; simp
  have g0 : w0.heap[W.heap.size]? = some (.cells #[.int .i64 kd, .int .i64 ra, .int .i64 rb, .int .u64 (rw' : Nat), .bool ch, .int .i64 n.lv, n.hi.v, .int .i64 n.ri, n.ks.v, n.vs.v, n.cs.v] 66 (0, 0)) := by rw [hw0]; exact heap_alloc_new W _
  obtain ⟨K', hK'⟩ : ∃ K' : Nat → Prop, K' = fun k => K k ∨ k = W.heap.size := ⟨_, rfl⟩
  have hA0 : AW K' w0 P AX AY s s := h.more b0 (fun k hk => by rw [hK'] at hk; rcases hk with hk | hk; exact .inl hk; exact .inr (by omega)) (by rw [hK']; exact .inl h.kp)
  have hi0 : n.In K' := hi.mono (fun k hk => by rw [hK']; exact .inl hk)
  have kb : K' W.heap.size := by rw [hK']; exact .inr rfl
  have kk : ∀ k, K k → K' k := fun k hk => by rw [hK']; exact .inl hk
  have HEND : Hid (∀ w' u, AW K' w' P AX AY u u → Upd (fun k => ¬ K' k) w0 w' → AwPost K W P AX AY u (.returned (.bool true)) w') := fun w' u h1 h2 => ⟨rfl, h1.less kk h.kp, (kept_below b0).trans (kept_less h2 kk)⟩
  have HCE : Hid (∀ w', Upd (fun k => ¬ K' k) w0 w' → w'.heap[W.heap.size]? = some (.cells #[.int .i64 kd, .int .i64 ra, .int .i64 rb, .int .u64 (rw' : Nat), .bool ch, .int .i64 n.lv, n.hi.v, .int .i64 n.ri, n.ks.v, n.vs.v, n.cs.v] 66 (0, 0))) := fun w' hu => kept_heap hu g0 kb
  have HOK : Hid (∀ w', Upd (fun k => ¬ K' k) w0 w' → n.Ok w') := fun w' hu => (hn.below b0).kept hi0 hu
  have HIN := hide hi0
  have HU0 : Hid (Upd (fun k => ¬ K' k) w0 w0) := Upd.refl _ _
  have HID := hide (wid_any hA0 ra a1 a2)
  have HIDB := hide (wid_any hA0 rb b1 b2)
  have HPK := hide (pick_any kd 9 w0 (by decide) (by decide) k1 k2)
  rw [hk, show (((5 : Nat)) : Int) = 5 from rfl, show (((9 : Nat)) : Int) = 9 from rfl] at HPK
  have HLEN := hide hA0.len
  obtain ⟨c0, c1⟩ := hA0.cells
  rw [← hid] at HID
  have HA0 := hide hA0
  have HW := hide hw0
  clear h hn hi hK' hA0 hi0 kb kk b0 hw0 z0 k1 k2 hk hid
  have CX : Hid (∀ w', AW K' w' P AX AY s s → Upd (fun k => ¬ K' k) w0 w' → Calls Tryz.prog 77 #[.pointer (some ⟨AX, 0, none⟩), .int .i64 (s.id ra), .agg #[n.ks.v, n.vs.v, n.cs.v]] w' fun e w'' => e = .returned (.int .i64 (s.unlE (s.id ra))) ∧ AW K' w'' P AX AY (s.bodS (s.id ra) n.ks.p n.vs.p n.cs.s) s ∧ Upd (fun k => ¬ K' k) w' w'') := fun w' hw hu => hw.X (fun F hp => px_setB hp (s.id ra) n.ks n.vs n.cs (HOK.out w' hu).k (HOK.out w' hu).v (HOK.out w' hu).c (HOK.out w' hu).kz (HOK.out w' hu).vz (HOK.out w' hu).cz)
  have CY : Hid (∀ w' u, AW K' w' P AX AY u s → Upd (fun k => ¬ K' k) w0 w' → Calls Tryz.prog 78 #[.pointer (some ⟨AY, 0, none⟩), .int .i64 (s.id ra), .agg #[n.ks.v, n.vs.v, n.cs.v]] w' fun e w'' => e = .returned (.int .i64 (s.unlE (s.id ra))) ∧ AW K' w'' P AX AY u (s.bodS (s.id ra) n.ks.p n.vs.p n.cs.s) ∧ Upd (fun k => ¬ K' k) w' w'') := fun w' u hw hu => hw.Y (fun F hp => rx_setB hp (s.id ra) n.ks n.vs n.cs (HOK.out w' hu).k (HOK.out w' hu).v (HOK.out w' hu).c (HOK.out w' hu).kz (HOK.out w' hu).vz (HOK.out w' hu).cz)
  obtain ⟨lv, ⟨ha, hc, hs⟩, ri, ⟨ka, kc, KL⟩, ⟨va, vc, V⟩, ⟨ca, cc, C⟩⟩ := n
  simp only [Tx.v, TL.v, IL.v] at *
  generalize s.unlE (s.id ra) = ue at *
  generalize hs.length = lh at *
  generalize KL.length = lk at *
  generalize V.length = lw at *
  generalize C.length = lc at *
  have y0 : w0.cell? ⟨W.heap.size, 0, none⟩ = some (.int .i64 kd) := row_cell g0 0 rfl
  have y1 : w0.cell? ⟨W.heap.size, 1, none⟩ = some (.int .i64 ra) := row_cell g0 1 rfl
  have y2 : w0.cell? ⟨W.heap.size, 2, none⟩ = some (.int .i64 rb) := row_cell g0 2 rfl
  have y3 : w0.cell? ⟨W.heap.size, 3, none⟩ = some (.int .u64 (rw' : Nat)) := row_cell g0 3 rfl
  have y4 : w0.cell? ⟨W.heap.size, 4, none⟩ = some (.bool ch) := row_cell g0 4 rfl
  have y5 : w0.cell? ⟨W.heap.size, 5, none⟩ = some (.int .i64 lv) := row_cell g0 5 rfl
  have y6 : w0.cell? ⟨W.heap.size, 6, none⟩ = some (.slice ha lh hc) := row_cell g0 6 rfl
  have y7 : w0.cell? ⟨W.heap.size, 7, none⟩ = some (.int .i64 ri) := row_cell g0 7 rfl
  have y8 : w0.cell? ⟨W.heap.size, 8, none⟩ = some (.slice ka lk kc) := row_cell g0 8 rfl
  have y9 : w0.cell? ⟨W.heap.size, 9, none⟩ = some (.slice va lw vc) := row_cell g0 9 rfl
  have y10 : w0.cell? ⟨W.heap.size, 10, none⟩ = some (.slice ca lc cc) := row_cell g0 10 rfl
  clear g0
  generalize s.id ra = id at *
  go_enter Tryz.func23, Tryz.ntmps23
  go_wp2_with fail
  rw [← HW.out]
  refine keep HID.out ?_
  go_wp2_with fail
  refine keep HPK.out ?_
  go_wp2_with fail
  go_region_held3 (fun W' => W'.cell? ⟨P, 0, none⟩ = some (.pointer (some ⟨AX, 0, none⟩)) ∧ W'.cell? ⟨P, 1, none⟩ = some (.pointer (some ⟨AY, 0, none⟩)) ∧ W'.cell? ⟨W.heap.size, 8, none⟩ = some (.slice ka lk kc) ∧ W'.cell? ⟨W.heap.size, 9, none⟩ = some (.slice va lw vc) ∧ W'.cell? ⟨W.heap.size, 10, none⟩ = some (.slice ca lc cc)) (go_keep) (first
    | (go_at_call 78; refine (CY.out w1 _ A1.out U1.out).mono ?_; rintro e w2 ⟨rfl, hA, hU⟩; have A2 := hide hA; have U2 := hide (U1.out.trans hU); obtain ⟨f0, f1⟩ := hA.cells; have t8 := row_cell (HCE.out w2 U2.out) 8 rfl; have t9 := row_cell (HCE.out w2 U2.out) 9 rfl; have t10 := row_cell (HCE.out w2 U2.out) 10 rfl; clear hA hU)
    | (go_at_call 77; refine (CX.out w0.drew (HA0.out.below (below_drew (Below.refl _ _))) (HU0.out.drew)).mono ?_; rintro e w1 ⟨rfl, hA, hU⟩; have A1 := hide hA; have U1 : Hid (Upd (fun k => ¬ K' k) w0 w1) := ((Upd.refl _ w0).drew).trans hU; obtain ⟨d0, d1⟩ := hA.cells; have u8 := row_cell (HCE.out w1 U1.out) 8 rfl; have u9 := row_cell (HCE.out w1 U1.out) 9 rfl; have u10 := row_cell (HCE.out w1 U1.out) 10 rfl; clear hA hU)
    | fail)
  have HF := hide (HEND.out w2 _ A2.out U2.out)
  clear HEND d0 d1 f0 f1
  go_wp2_with fail
  go_ret
  have := HF.out
  simpa using this
end

end Go.Proofs.YtmhhakahjhjhlaaGreat

namespace Go.Proofs.YtmhhakahjhjhlaaGreat
open Go.RowKit
set_option maxRecDepth 100000
section
variable {K : Nat → Prop} {W : World} {P AX AY : Nat} {s : AS}
set_option maxRecDepth 100000 in
set_option maxHeartbeats 3200000 in
theorem raw6 (h : AW K W P AX AY s s) (o : AOp) (ho : o.Ok K W) (hk : pickN o.kind 9 = 6) : Calls Tryz.prog 23 #[.pointer (some ⟨P, 0, none⟩), o.v] W (AwPost K W P AX AY (s.groS (s.id o.a) (s.id o.b))) := by
  obtain ⟨kd, ra, rb, rw', ch, n⟩ := o
  obtain ⟨⟨k1, k2⟩, ⟨a1, a2⟩, ⟨b1, b2⟩, w1, hn, hi⟩ := ho
  simp only at hk k1 k2 a1 a2 b1 b2 w1 hn hi
  simp only [AOp.v]
  have hid : s.id ra = ((pickN ra (s.sl.length + 2) : Nat) : Int) := rfl
  obtain ⟨w0, hw0⟩ : ∃ w0, w0 = W.alloc (.cells #[.int .i64 kd, .int .i64 ra, .int .i64 rb, .int .u64 (rw' : Nat), .bool ch, .int .i64 n.lv, n.hi.v, .int .i64 n.ri, n.ks.v, n.vs.v, n.cs.v] 66) := ⟨_, rfl⟩
  have b0 : Below W.heap.size W w0 := by rw [hw0]; exact (Below.refl _ _).alloc (Nat.le_refl _) _
  have z0 : w0.heap.size = W.heap.size + 1 := by rw [hw0]; simp
  have g0 : w0.heap[W.heap.size]? = some (.cells #[.int .i64 kd, .int .i64 ra, .int .i64 rb, .int .u64 (rw' : Nat), .bool ch, .int .i64 n.lv, n.hi.v, .int .i64 n.ri, n.ks.v, n.vs.v, n.cs.v] 66 (0, 0)) := by rw [hw0]; exact heap_alloc_new W _
  obtain ⟨K', hK'⟩ : ∃ K' : Nat → Prop, K' = fun k => K k ∨ k = W.heap.size := ⟨_, rfl⟩
  have hA0 : AW K' w0 P AX AY s s := h.more b0 (fun k hk => by rw [hK'] at hk; rcases hk with hk | hk; exact .inl hk; exact .inr (by omega)) (by rw [hK']; exact .inl h.kp)
  have hi0 : n.In K' := hi.mono (fun k hk => by rw [hK']; exact .inl hk)
  have kb : K' W.heap.size := by rw [hK']; exact .inr rfl
  have kk : ∀ k, K k → K' k := fun k hk => by rw [hK']; exact .inl hk
  have HEND : Hid (∀ w' u, AW K' w' P AX AY u u → Upd (fun k => ¬ K' k) w0 w' → AwPost K W P AX AY u (.returned (.bool true)) w') := fun w' u h1 h2 => ⟨rfl, h1.less kk h.kp, (kept_below b0).trans (kept_less h2 kk)⟩
  have HCE : Hid (∀ w', Upd (fun k => ¬ K' k) w0 w' → w'.heap[W.heap.size]? = some (.cells #[.int .i64 kd, .int .i64 ra, .int .i64 rb, .int .u64 (rw' : Nat), .bool ch, .int .i64 n.lv, n.hi.v, .int .i64 n.ri, n.ks.v, n.vs.v, n.cs.v] 66 (0, 0))) := fun w' hu => kept_heap hu g0 kb
  have HOK : Hid (∀ w', Upd (fun k => ¬ K' k) w0 w' → n.Ok w') := fun w' hu => (hn.below b0).kept hi0 hu
  have HIN := hide hi0
  have HU0 : Hid (Upd (fun k => ¬ K' k) w0 w0) := Upd.refl _ _
  have HID := hide (wid_any hA0 ra a1 a2)
  have HIDB := hide (wid_any hA0 rb b1 b2)
  have HPK := hide (pick_any kd 9 w0 (by decide) (by decide) k1 k2)
  rw [hk, show (((6 : Nat)) : Int) = 6 from rfl, show (((9 : Nat)) : Int) = 9 from rfl] at HPK
  have HLEN := hide hA0.len
  obtain ⟨c0, c1⟩ := hA0.cells
  rw [← hid] at HID
  have HA0 := hide hA0
  have HW := hide hw0
  clear h hn hi hK' hA0 hi0 kb kk b0 hw0 z0 k1 k2 hk hid
  rw [show ((pickN rb (s.sl.length + 2) : Nat) : Int) = s.id rb from rfl] at HIDB
  have GX := hide (HA0.out.X (fun F hp => px_grow hp (s.id ra) (s.id rb)))
  have GY : Hid (∀ w' u, AW K' w' P AX AY u s → Calls Tryz.prog 80 #[.pointer (some ⟨AY, 0, none⟩), .int .i64 (s.id ra), .int .i64 (s.id rb)] w' fun e w'' => e = .returned (.tuple #[.bool (s.groB (s.id ra) (s.id rb)), .int .i64 (s.wordE (s.id rb))]) ∧ AW K' w'' P AX AY u (s.groS (s.id ra) (s.id rb)) ∧ Upd (fun k => ¬ K' k) w' w'') := fun w' u hw => hw.Y (fun F hp => rx_grow hp (s.id ra) (s.id rb))
  obtain ⟨lv, ⟨ha, hc, hs⟩, ri, ⟨ka, kc, KL⟩, ⟨va, vc, V⟩, ⟨ca, cc, C⟩⟩ := n
  simp only [Tx.v, TL.v, IL.v] at *
  generalize hs.length = lh at *
  generalize KL.length = lk at *
  generalize V.length = lw at *
  generalize C.length = lc at *
  generalize s.groB (s.id ra) (s.id rb) = gb at *
  generalize s.wordE (s.id rb) = ge at *
  generalize s.groS (s.id ra) (s.id rb) = gs at *
  generalize s.id rb = idb at *
  have y0 : w0.cell? ⟨W.heap.size, 0, none⟩ = some (.int .i64 kd) := row_cell g0 0 rfl
  have y1 : w0.cell? ⟨W.heap.size, 1, none⟩ = some (.int .i64 ra) := row_cell g0 1 rfl
  have y2 : w0.cell? ⟨W.heap.size, 2, none⟩ = some (.int .i64 rb) := row_cell g0 2 rfl
  have y3 : w0.cell? ⟨W.heap.size, 3, none⟩ = some (.int .u64 (rw' : Nat)) := row_cell g0 3 rfl
  have y4 : w0.cell? ⟨W.heap.size, 4, none⟩ = some (.bool ch) := row_cell g0 4 rfl
  have y5 : w0.cell? ⟨W.heap.size, 5, none⟩ = some (.int .i64 lv) := row_cell g0 5 rfl
  have y6 : w0.cell? ⟨W.heap.size, 6, none⟩ = some (.slice ha lh hc) := row_cell g0 6 rfl
  have y7 : w0.cell? ⟨W.heap.size, 7, none⟩ = some (.int .i64 ri) := row_cell g0 7 rfl
  have y8 : w0.cell? ⟨W.heap.size, 8, none⟩ = some (.slice ka lk kc) := row_cell g0 8 rfl
  have y9 : w0.cell? ⟨W.heap.size, 9, none⟩ = some (.slice va lw vc) := row_cell g0 9 rfl
  have y10 : w0.cell? ⟨W.heap.size, 10, none⟩ = some (.slice ca lc cc) := row_cell g0 10 rfl
  clear g0
  generalize s.id ra = id at *
  go_enter Tryz.func23, Tryz.ntmps23
  go_wp2_with fail
  rw [← HW.out]
  refine keep HID.out ?_
  go_wp2_with fail
  refine keep HPK.out ?_
  go_wp2_with fail
  refine keep HIDB.out ?_
  go_wp2_with fail
  refine GX.out.mono ?_
  rintro e w1 ⟨rfl, hA, hU⟩
  obtain ⟨d0, d1⟩ := hA.cells
  have AY1 := hide (GY.out w1 _ hA)
  have U1 := hide hU
  clear hA hU c0 c1
  go_wp2_with fail
  refine AY1.out.mono ?_
  rintro e w2 ⟨rfl, hA, hU⟩
  have HF := hide (HEND.out w2 _ hA (U1.out.trans hU))
  clear hA hU HEND
  go_wp2_with fail
  go_ret
  have := HF.out
  simpa using this
set_option maxRecDepth 100000 in
set_option maxHeartbeats 3200000 in
theorem raw8 (h : AW K W P AX AY s s) (o : AOp) (ho : o.Ok K W) (hk : pickN o.kind 9 = 8) : Calls Tryz.prog 23 #[.pointer (some ⟨P, 0, none⟩), o.v] W (AwPost K W P AX AY (s.lockS (s.id o.a) o.w)) := by
  obtain ⟨kd, ra, rb, rw', ch, n⟩ := o
  obtain ⟨⟨k1, k2⟩, ⟨a1, a2⟩, ⟨b1, b2⟩, w1, hn, hi⟩ := ho
  simp only at hk k1 k2 a1 a2 b1 b2 w1 hn hi
  simp only [AOp.v]
  have hid : s.id ra = ((pickN ra (s.sl.length + 2) : Nat) : Int) := rfl
  obtain ⟨w0, hw0⟩ : ∃ w0, w0 = W.alloc (.cells #[.int .i64 kd, .int .i64 ra, .int .i64 rb, .int .u64 (rw' : Nat), .bool ch, .int .i64 n.lv, n.hi.v, .int .i64 n.ri, n.ks.v, n.vs.v, n.cs.v] 66) := ⟨_, rfl⟩
  have b0 : Below W.heap.size W w0 := by rw [hw0]; exact (Below.refl _ _).alloc (Nat.le_refl _) _
  have z0 : w0.heap.size = W.heap.size + 1 := by rw [hw0]; simp
  have g0 : w0.heap[W.heap.size]? = some (.cells #[.int .i64 kd, .int .i64 ra, .int .i64 rb, .int .u64 (rw' : Nat), .bool ch, .int .i64 n.lv, n.hi.v, .int .i64 n.ri, n.ks.v, n.vs.v, n.cs.v] 66 (0, 0)) := by rw [hw0]; exact heap_alloc_new W _
  obtain ⟨K', hK'⟩ : ∃ K' : Nat → Prop, K' = fun k => K k ∨ k = W.heap.size := ⟨_, rfl⟩
  have hA0 : AW K' w0 P AX AY s s := h.more b0 (fun k hk => by rw [hK'] at hk; rcases hk with hk | hk; exact .inl hk; exact .inr (by omega)) (by rw [hK']; exact .inl h.kp)
  have hi0 : n.In K' := hi.mono (fun k hk => by rw [hK']; exact .inl hk)
  have kb : K' W.heap.size := by rw [hK']; exact .inr rfl
  have kk : ∀ k, K k → K' k := fun k hk => by rw [hK']; exact .inl hk
  have HEND : Hid (∀ w' u, AW K' w' P AX AY u u → Upd (fun k => ¬ K' k) w0 w' → AwPost K W P AX AY u (.returned (.bool true)) w') := fun w' u h1 h2 => ⟨rfl, h1.less kk h.kp, (kept_below b0).trans (kept_less h2 kk)⟩
  have HCE : Hid (∀ w', Upd (fun k => ¬ K' k) w0 w' → w'.heap[W.heap.size]? = some (.cells #[.int .i64 kd, .int .i64 ra, .int .i64 rb, .int .u64 (rw' : Nat), .bool ch, .int .i64 n.lv, n.hi.v, .int .i64 n.ri, n.ks.v, n.vs.v, n.cs.v] 66 (0, 0))) := fun w' hu => kept_heap hu g0 kb
  have HOK : Hid (∀ w', Upd (fun k => ¬ K' k) w0 w' → n.Ok w') := fun w' hu => (hn.below b0).kept hi0 hu
  have HIN := hide hi0
  have HU0 : Hid (Upd (fun k => ¬ K' k) w0 w0) := Upd.refl _ _
  have HID := hide (wid_any hA0 ra a1 a2)
  have HIDB := hide (wid_any hA0 rb b1 b2)
  have HPK := hide (pick_any kd 9 w0 (by decide) (by decide) k1 k2)
  rw [hk, show (((8 : Nat)) : Int) = 8 from rfl, show (((9 : Nat)) : Int) = 9 from rfl] at HPK
  have HLEN := hide hA0.len
  obtain ⟨c0, c1⟩ := hA0.cells
  rw [← hid] at HID
  have HA0 := hide hA0
  have HW := hide hw0
  clear h hn hi hK' hA0 hi0 kb kk b0 hw0 z0 k1 k2 hk hid
  have LCK := hide (wlock_any HA0.out (s.id ra) rw' w1)
  obtain ⟨lv, ⟨ha, hc, hs⟩, ri, ⟨ka, kc, KL⟩, ⟨va, vc, V⟩, ⟨ca, cc, C⟩⟩ := n
  simp only [Tx.v, TL.v, IL.v] at *
  generalize hs.length = lh at *
  generalize KL.length = lk at *
  generalize V.length = lw at *
  generalize C.length = lc at *
  have y0 : w0.cell? ⟨W.heap.size, 0, none⟩ = some (.int .i64 kd) := row_cell g0 0 rfl
  have y1 : w0.cell? ⟨W.heap.size, 1, none⟩ = some (.int .i64 ra) := row_cell g0 1 rfl
  have y2 : w0.cell? ⟨W.heap.size, 2, none⟩ = some (.int .i64 rb) := row_cell g0 2 rfl
  have y3 : w0.cell? ⟨W.heap.size, 3, none⟩ = some (.int .u64 (rw' : Nat)) := row_cell g0 3 rfl
  have y4 : w0.cell? ⟨W.heap.size, 4, none⟩ = some (.bool ch) := row_cell g0 4 rfl
  have y5 : w0.cell? ⟨W.heap.size, 5, none⟩ = some (.int .i64 lv) := row_cell g0 5 rfl
  have y6 : w0.cell? ⟨W.heap.size, 6, none⟩ = some (.slice ha lh hc) := row_cell g0 6 rfl
  have y7 : w0.cell? ⟨W.heap.size, 7, none⟩ = some (.int .i64 ri) := row_cell g0 7 rfl
  have y8 : w0.cell? ⟨W.heap.size, 8, none⟩ = some (.slice ka lk kc) := row_cell g0 8 rfl
  have y9 : w0.cell? ⟨W.heap.size, 9, none⟩ = some (.slice va lw vc) := row_cell g0 9 rfl
  have y10 : w0.cell? ⟨W.heap.size, 10, none⟩ = some (.slice ca lc cc) := row_cell g0 10 rfl
  clear g0
  generalize s.id ra = id at *
  go_enter Tryz.func23, Tryz.ntmps23
  go_wp2_with fail
  rw [← HW.out]
  refine keep HID.out ?_
  go_wp2_with fail
  refine keep HPK.out ?_
  go_wp2_with fail
  refine LCK.out.mono ?_
  rintro e w2 ⟨rfl, hA, hU⟩
  have HF := hide (HEND.out w2 _ hA hU)
  clear hA hU HEND
  go_wp2_with fail
  go_ret
  exact HF.out
end

end Go.Proofs.YtmhhakahjhjhlaaGreat

namespace Go.Proofs.YtmhhakahjhjhlaaGreat
open Go.RowKit
set_option maxRecDepth 100000
section
variable {K : Nat → Prop} {W : World} {P AX AY : Nat} {s : AS}
set_option maxRecDepth 100000 in
set_option maxHeartbeats 3200000 in
theorem raw7 (h : AW K W P AX AY s s) (o : AOp) (ho : o.Ok K W) (hk : pickN o.kind 9 = 7) : Calls Tryz.prog 23 #[.pointer (some ⟨P, 0, none⟩), o.v] W (AwPost K W P AX AY (s.layS (1 + ((pickN o.a (s.sl.length + 1) : Nat) : Int)) o.n.p)) := by
  obtain ⟨kd, ra, rb, rw', ch, n⟩ := o
  obtain ⟨⟨k1, k2⟩, ⟨a1, a2⟩, ⟨b1, b2⟩, w1, hn, hi⟩ := ho
  simp only at hk k1 k2 a1 a2 b1 b2 w1 hn hi
  simp only [AOp.v]
  have hid : s.id ra = ((pickN ra (s.sl.length + 2) : Nat) : Int) := rfl
  obtain ⟨w0, hw0⟩ : ∃ w0, w0 = W.alloc (.cells #[.int .i64 kd, .int .i64 ra, .int .i64 rb, .int .u64 (rw' : Nat), .bool ch, .int .i64 n.lv, n.hi.v, .int .i64 n.ri, n.ks.v, n.vs.v, n.cs.v] 66) := ⟨_, rfl⟩
  have b0 : Below W.heap.size W w0 := by rw [hw0]; exact (Below.refl _ _).alloc (Nat.le_refl _) _
  have z0 : w0.heap.size = W.heap.size + 1 := by rw [hw0]; simp
  have g0 : w0.heap[W.heap.size]? = some (.cells #[.int .i64 kd, .int .i64 ra, .int .i64 rb, .int .u64 (rw' : Nat), .bool ch, .int .i64 n.lv, n.hi.v, .int .i64 n.ri, n.ks.v, n.vs.v, n.cs.v] 66 (0, 0)) := by rw [hw0]; exact heap_alloc_new W _
  obtain ⟨K', hK'⟩ : ∃ K' : Nat → Prop, K' = fun k => K k ∨ k = W.heap.size := ⟨_, rfl⟩
  have hA0 : AW K' w0 P AX AY s s := h.more b0 (fun k hk => by rw [hK'] at hk; rcases hk with hk | hk; exact .inl hk; exact .inr (by omega)) (by rw [hK']; exact .inl h.kp)
  have hi0 : n.In K' := hi.mono (fun k hk => by rw [hK']; exact .inl hk)
  have kb : K' W.heap.size := by rw [hK']; exact .inr rfl
  have kk : ∀ k, K k → K' k := fun k hk => by rw [hK']; exact .inl hk
  have HEND : Hid (∀ w' u, AW K' w' P AX AY u u → Upd (fun k => ¬ K' k) w0 w' → AwPost K W P AX AY u (.returned (.bool true)) w') := fun w' u h1 h2 => ⟨rfl, h1.less kk h.kp, (kept_below b0).trans (kept_less h2 kk)⟩
  have HCE : Hid (∀ w', Upd (fun k => ¬ K' k) w0 w' → w'.heap[W.heap.size]? = some (.cells #[.int .i64 kd, .int .i64 ra, .int .i64 rb, .int .u64 (rw' : Nat), .bool ch, .int .i64 n.lv, n.hi.v, .int .i64 n.ri, n.ks.v, n.vs.v, n.cs.v] 66 (0, 0))) := fun w' hu => kept_heap hu g0 kb
  have HOK : Hid (∀ w', Upd (fun k => ¬ K' k) w0 w' → n.Ok w') := fun w' hu => (hn.below b0).kept hi0 hu
  have HIN := hide hi0
  have HU0 : Hid (Upd (fun k => ¬ K' k) w0 w0) := Upd.refl _ _
  have HID := hide (wid_any hA0 ra a1 a2)
  have HIDB := hide (wid_any hA0 rb b1 b2)
  have HPK := hide (pick_any kd 9 w0 (by decide) (by decide) k1 k2)
  rw [hk, show (((7 : Nat)) : Int) = 7 from rfl, show (((9 : Nat)) : Int) = 9 from rfl] at HPK
  have HLEN := hide hA0.len
  obtain ⟨c0, c1⟩ := hA0.cells
  rw [← hid] at HID
  have HA0 := hide hA0
  have HW := hide hw0
  clear h hn hi hK' hA0 hi0 kb kk b0 hw0 z0 k1 k2 hk hid
  have hll := HLEN.out.1
  have UY : Hid (∀ w', AW K' w' P AX AY s s → Calls Tryz.prog 26 #[.pointer (some ⟨AY, 0, none⟩)] w' fun e w'' => e = .returned (.int .i64 (s.sl.length : Nat)) ∧ w'' = w') := fun w' hw => aw_usedY hw
  have PK : Hid (∀ w', Calls Tryz.prog 67 #[.int .i64 ra, .int .i64 ((s.sl.length : Int) + 1)] w' fun e w'' => e = .returned (.int .i64 (pickN ra (s.sl.length + 1) : Nat)) ∧ w'' = w') := fun w' => pick_any ra (s.sl.length + 1) w' (by omega) (by omega) a1 a2
  have hpl := pickN_lt ra (s.sl.length + 1) (by omega)
  have LAY : Hid (∀ w', AW K' w' P AX AY s s → Upd (fun k => ¬ K' k) w0 w' → Calls Tryz.prog 81 #[.pointer (some ⟨P, 0, none⟩), .int .i64 (1 + ((pickN ra (s.sl.length + 1) : Nat) : Int)), n.v] w' (AwPost K' w' P AX AY (s.layS (1 + ((pickN ra (s.sl.length + 1) : Nat) : Int)) n.p))) := fun w' hw hu => wlay_any hw _ n (HOK.out w' hu) HIN.out
  obtain ⟨lv, ⟨ha, hc, hs⟩, ri, ⟨ka, kc, KL⟩, ⟨va, vc, V⟩, ⟨ca, cc, C⟩⟩ := n
  simp only [Nd.v, Tx.v, TL.v, IL.v] at *
  generalize hs.length = lh at *
  generalize KL.length = lk at *
  generalize V.length = lw at *
  generalize C.length = lc at *
  generalize s.layS (1 + ((pickN ra (s.sl.length + 1) : Nat) : Int)) (Nd.p ⟨lv, ⟨ha, hc, hs⟩, ri, ⟨ka, kc, KL⟩, ⟨va, vc, V⟩, ⟨ca, cc, C⟩⟩) = ls at *
  generalize pickN ra (s.sl.length + 1) = pl at *
  generalize s.sl.length = ll at *
  have j1 : IntKind.i64.wrap ((ll : Int) + 1) = (ll : Int) + 1 := by rw [IntKind.wrap_i64]; omega
  have j2 : IntKind.i64.wrap (1 + (pl : Int)) = 1 + (pl : Int) := by rw [IntKind.wrap_i64]; omega
  have y0 : w0.cell? ⟨W.heap.size, 0, none⟩ = some (.int .i64 kd) := row_cell g0 0 rfl
  have y1 : w0.cell? ⟨W.heap.size, 1, none⟩ = some (.int .i64 ra) := row_cell g0 1 rfl
  have y2 : w0.cell? ⟨W.heap.size, 2, none⟩ = some (.int .i64 rb) := row_cell g0 2 rfl
  have y3 : w0.cell? ⟨W.heap.size, 3, none⟩ = some (.int .u64 (rw' : Nat)) := row_cell g0 3 rfl
  have y4 : w0.cell? ⟨W.heap.size, 4, none⟩ = some (.bool ch) := row_cell g0 4 rfl
  have y5 : w0.cell? ⟨W.heap.size, 5, none⟩ = some (.int .i64 lv) := row_cell g0 5 rfl
  have y6 : w0.cell? ⟨W.heap.size, 6, none⟩ = some (.slice ha lh hc) := row_cell g0 6 rfl
  have y7 : w0.cell? ⟨W.heap.size, 7, none⟩ = some (.int .i64 ri) := row_cell g0 7 rfl
  have y8 : w0.cell? ⟨W.heap.size, 8, none⟩ = some (.slice ka lk kc) := row_cell g0 8 rfl
  have y9 : w0.cell? ⟨W.heap.size, 9, none⟩ = some (.slice va lw vc) := row_cell g0 9 rfl
  have y10 : w0.cell? ⟨W.heap.size, 10, none⟩ = some (.slice ca lc cc) := row_cell g0 10 rfl
  clear g0
  generalize s.id ra = id at *
  go_enter Tryz.func23, Tryz.ntmps23
  go_wp2_with fail
  rw [← HW.out]
  refine keep HID.out ?_
  go_wp2_with fail
  refine keep HPK.out ?_
  go_wp2_with fail
  go_region_held3 (fun W' => W'.cell? ⟨P, 1, none⟩ = some (.pointer (some ⟨AY, 0, none⟩)) ∧ W'.cell? ⟨W.heap.size, 1, none⟩ = some (.int .i64 ra) ∧ W'.cell? ⟨W.heap.size, 5, none⟩ = some (.int .i64 lv) ∧ W'.cell? ⟨W.heap.size, 6, none⟩ = some (.slice ha lh hc) ∧ W'.cell? ⟨W.heap.size, 7, none⟩ = some (.int .i64 ri) ∧ W'.cell? ⟨W.heap.size, 8, none⟩ = some (.slice ka lk kc) ∧ W'.cell? ⟨W.heap.size, 9, none⟩ = some (.slice va lw vc) ∧ W'.cell? ⟨W.heap.size, 10, none⟩ = some (.slice ca lc cc)) (go_keep) (first
    | (go_at_call 81; refine (LAY.out w0.drew (HA0.out.below (below_drew (Below.refl _ _))) (HU0.out.drew)).mono ?_; rintro e w2 ⟨rfl, hA, hU⟩; have A2 := hide hA; have U2 : Hid (Upd (fun k => ¬ K' k) w0 w2) := ((Upd.refl _ w0).drew).trans hU; obtain ⟨f0, f1⟩ := hA.cells; have t1 := row_cell (HCE.out w2 U2.out) 1 rfl; have t5 := row_cell (HCE.out w2 U2.out) 5 rfl; have t6 := row_cell (HCE.out w2 U2.out) 6 rfl; have t7 := row_cell (HCE.out w2 U2.out) 7 rfl; have t8 := row_cell (HCE.out w2 U2.out) 8 rfl; have t9 := row_cell (HCE.out w2 U2.out) 9 rfl; have t10 := row_cell (HCE.out w2 U2.out) 10 rfl; clear hA hU)
    | (go_at_call 67; refine keep (PK.out w0.drew) ?_)
    | (go_at_call 26; refine keep (UY.out w0.drew (HA0.out.below (below_drew (Below.refl _ _)))) ?_)
    | fail)
  have HF := hide (HEND.out w2 _ A2.out U2.out)
  clear HEND f0 f1
  go_wp2_with fail
  go_ret
  exact HF.out
end

end Go.Proofs.YtmhhakahjhjhlaaGreat

namespace Go.Proofs.YtmhhakahjhjhlaaGreat
open Go.RowKit
set_option maxRecDepth 100000
theorem raw_any {K : Nat → Prop} {W : World} {P AX AY : Nat} {s : AS} (h : AW K W P AX AY s s) (o : AOp) (ho : o.Ok K W) : Calls Tryz.prog 23 #[.pointer (some ⟨P, 0, none⟩), o.v] W (AwPost K W P AX AY (s.raw o)) := by
  have hlt := pickN_lt o.kind 9 (by decide)
  unfold AS.raw
  by_cases h0 : pickN o.kind 9 = 0
  · rw [if_pos h0]; exact raw0 h o ho h0
  rw [if_neg h0]
  by_cases h1 : pickN o.kind 9 = 1
  · rw [if_pos h1]; exact raw1 h o ho h1
  rw [if_neg h1]
  by_cases h2 : pickN o.kind 9 = 2
  · rw [if_pos h2]; exact raw2 h o ho h2
  rw [if_neg h2]
  by_cases h3 : pickN o.kind 9 = 3
  · rw [if_pos h3]; exact raw3 h o ho h3
  rw [if_neg h3]
  by_cases h4 : pickN o.kind 9 = 4
  · rw [if_pos h4]; exact raw4 h o ho h4
  rw [if_neg h4]
  by_cases h5 : pickN o.kind 9 = 5
  · rw [if_pos h5]; exact raw5 h o ho h5
  rw [if_neg h5]
  by_cases h6 : pickN o.kind 9 = 6
  · rw [if_pos h6]; exact raw6 h o ho h6
  rw [if_neg h6]
  by_cases h7 : pickN o.kind 9 = 7
  · rw [if_pos h7]; exact raw7 h o ho h7
  rw [if_neg h7]
  exact raw8 h o ho (by omega)

/-- A script in memory. -/
structure Ops (K : Nat → Prop) (W : World) (a : Option Addr) (L : List AOp) : Prop where
  c : ∀ i (h : i < L.length), ∃ b o, a = some ⟨b, o, none⟩ ∧ K b ∧ ∀ j (v : Value), (match L[i].v with | .agg cs => cs | _ => #[])[j]? = some v → W.cell? ⟨b, o + i * 11 + j, none⟩ = some v
  ok : ∀ x ∈ L, x.Ok K W
theorem Ops.kept {K : Nat → Prop} {W W' : World} {a : Option Addr} {L : List AOp} (h : Ops K W a L) (hu : Upd (fun k => ¬ K k) W W') : Ops K W' a L := by
  refine ⟨fun i hi => ?_, fun x hx => (h.ok x hx).kept hu⟩
  obtain ⟨b, o, ha, hk, hc⟩ := h.c i hi
  exact ⟨b, o, ha, hk, fun j v hv => kept_cell hu (hc j v hv) hk⟩
theorem Ops.mono {K K' : Nat → Prop} {W : World} {a : Option Addr} {L : List AOp} (h : Ops K W a L) (hk : ∀ k, K k → K' k) : Ops K' W a L := by
  refine ⟨fun i hi => ?_, fun x hx => ?_⟩
  · obtain ⟨b, o, ha, hb, hc⟩ := h.c i hi
    exact ⟨b, o, ha, hk b hb, hc⟩
  · have := h.ok x hx
    exact ⟨this.k1, this.a1, this.b1, this.w1, this.n, this.i.mono hk⟩
/-- What a script leaves. -/
def AS.run (s : AS) (L : List AOp) : AS := L.foldl AS.raw s
theorem AS.run_take (s : AS) (L : List AOp) (i : Nat) (h : i < L.length) : s.run (L.take (i + 1)) = (s.run (L.take i)).raw L[i] := by
  unfold AS.run
  rw [take_next h, List.foldl_append]
  rfl

end Go.Proofs.YtmhhakahjhjhlaaGreat
