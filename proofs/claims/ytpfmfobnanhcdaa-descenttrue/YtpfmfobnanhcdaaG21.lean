/- The statements' Begun and lay. -/
import Derived.Test.YtpfmfobnanhcdaaG20
import Derived.Test.YtpfmfobnanhcdaaG13
namespace Go.Proofs.Ytpfmfobnanhcdaa
open Go.RowKit
set_option maxRecDepth 100000

def BegP (w : World) (nodes : Int) (e : Ending) (w' : World) : Prop :=
  ∃ P AX AY, e = .returned (.tuple #[.pointer (some ⟨P, 0, none⟩), .bool true]) ∧ AW (fun k => k < w.heap.size ∨ k = P) w' P AX AY (AS.new nodes) (AS.new nodes) ∧ Below w.heap.size w w'
set_option maxHeartbeats 800000 in
theorem begun_bad (nodes : Int) (w : World) (h : ¬ (1 ≤ nodes ∧ nodes ≤ 65536)) : Calls Try.prog 9 #[.int .i64 nodes] w fun e w' => e = .returned (.tuple #[.pointer none, .bool true]) ∧ w' = w := by
  have HX := hide (new_bad nodes w h)
  have HY := hide (rnew_bad nodes w h)
  clear h
  go_enter Try.func9, Try.ntmps9
  go_wp2_with fail
  refine keep HX.out ?_
  go_wp2_with fail
  refine keep HY.out ?_
  go_wp2_with fail
  go_ret2
  exact ⟨rfl, rfl⟩
set_option maxHeartbeats 800000 in
theorem begun_good (nodes : Int) (w : World) (h1 : 1 ≤ nodes) (h2 : nodes ≤ 65536) : Calls Try.prog 9 #[.int .i64 nodes] w (BegP w nodes) := by
  have HX := hide (px_new nodes w h1 h2)
  have HY : Hid (∀ W, Calls Try.prog 42 #[.int .i64 nodes] W (NewR W nodes)) := fun W => rx_new nodes W h1 h2
  clear h1 h2
  go_enter Try.func9, Try.ntmps9
  go_wp2_with fail
  refine HX.out.mono ?_
  rintro e w1 ⟨AX, FX, rfl, hp, hf, hb⟩
  have PP := hide hp
  have PF := hide hf
  have B1 := hide hb
  clear hp hf hb
  go_wp2_with fail
  refine (HY.out w1).mono ?_
  rintro e w2 ⟨AY, FY, rfl, hr, hg, hb⟩
  have RR := hide hr
  have RF := hide hg
  have B2 := hide hb
  clear hr hg hb
  go_wp2_with fail
  go_ret2
  have u1 : Upd Noth w1 (w2.alloc (.cells #[.pointer (some ⟨AX, 0, none⟩), .pointer (some ⟨AY, 0, none⟩)] 48)) := (Upd.of_below B2.out _).alloc _
  have u2 : Upd Noth w2 (w2.alloc (.cells #[.pointer (some ⟨AX, 0, none⟩), .pointer (some ⟨AY, 0, none⟩)] 48)) := (Upd.refl _ _).alloc _
  have s1 := B1.out.size
  have s2 := B2.out.size
  refine ⟨w2.heap.size, AX, AY, rfl, ⟨FX, FY, heap_alloc_new w2 _, PP.out.upd u1 (fun _ _ e => e), RR.out.upd u2 (fun _ _ e => e), ?_, ?_, .inr rfl, ?_⟩, ?_⟩
  · intro k hx hy
    have := PP.out.lt k hx
    have := RF.out k hy
    omega
  · intro k hk hK
    rcases hk with hk | hk
    · have := PP.out.lt k hk
      have := PF.out k hk
      omega
    · have := RR.out.lt k hk
      have := RF.out k hk
      omega
  · intro k hk
    simp
    omega
  · exact (B1.out.trans (B2.out.mono s1)).alloc (by omega) _

/-- A node is laid. -/
def AS.finS (u : AS) (id : Int) (p : NP) : AS := ((u.hedS id p.lv p.hi p.ri).bodS id p.ks p.vs p.cs).unlS id true
def AS.layS (s : AS) (id : Int) (p : NP) : AS :=
  if (s.sl.length : Int) < id then (if (s.sl.length : Int) < s.nodes then s.allS.finS id p else s) else (s.lockS id (s.wordW id)).finS id p
/-- A node among what is not touched. -/
theorem Nd.Ok.kept {K : Nat → Prop} {W W' : World} {n : Nd} (h : n.Ok W) (hi : n.In K) (hu : Upd (fun k => ¬ K k) W W') : n.Ok W' := h.upd hi hu (fun _ hk e => e hk)
section
variable {K : Nat → Prop} {W : World} {P AX AY : Nat} {s : AS}
set_option maxRecDepth 100000 in
set_option maxHeartbeats 6400000 in
theorem wlay_any (h : AW K W P AX AY s s) (id : Int) (n : Nd) (hn : n.Ok W) (hi : n.In K) :
    Calls Try.prog 59 #[.pointer (some ⟨P, 0, none⟩), .int .i64 id, n.v] W (AwPost K W P AX AY (s.layS id n.p)) := by
  obtain ⟨w0, hw0⟩ : ∃ w0, w0 = W.alloc (.cells #[.int .i64 n.lv, n.hi.v, .int .i64 n.ri, n.ks.v, n.vs.v, n.cs.v] 37) := ⟨_, rfl⟩
  have b0 : Below W.heap.size W w0 := by rw [hw0]; exact (Below.refl _ _).alloc (Nat.le_refl _) _
  have z0 : w0.heap.size = W.heap.size + 1 := by rw [hw0]; simp
  have g0 : w0.heap[W.heap.size]? = some (.cells #[.int .i64 n.lv, n.hi.v, .int .i64 n.ri, n.ks.v, n.vs.v, n.cs.v] 37 (0, 0)) := by rw [hw0]; exact heap_alloc_new W _
  obtain ⟨K', hK'⟩ : ∃ K' : Nat → Prop, K' = fun k => K k ∨ k = W.heap.size := ⟨_, rfl⟩
  have hA0 : AW K' w0 P AX AY s s := h.more b0 (fun k hk => by rw [hK'] at hk; rcases hk with hk | hk; exact .inl hk; exact .inr (by omega)) (by rw [hK']; exact .inl h.kp)
  have hn0 : n.Ok w0 := hn.below b0
  have hi0 : n.In K' := hi.mono (fun k hk => by rw [hK']; exact .inl hk)
  have kb : K' W.heap.size := by rw [hK']; exact .inr rfl
  have kk : ∀ k, K k → K' k := fun k hk => by rw [hK']; exact .inl hk
  have HEND : Hid (∀ w' u, AW K' w' P AX AY u u → Upd (fun k => ¬ K' k) w0 w' → AwPost K W P AX AY u (.returned (.bool true)) w') := fun w' u h1 h2 => ⟨rfl, h1.less kk h.kp, (kept_below b0).trans (kept_less h2 kk)⟩
  have HCE : Hid (∀ w', Upd (fun k => ¬ K' k) w0 w' → Six w' W.heap.size (.int .i64 n.lv) n.hi.v (.int .i64 n.ri) n.ks.v n.vs.v n.cs.v) := fun w' hu => Six.of (kept_heap hu g0 kb)
  have HOK : Hid (∀ w', Upd (fun k => ¬ K' k) w0 w' → n.Ok w') := fun w' hu => hn0.kept hi0 hu
  have HBW := hide h.kp
  have hl := h.len
  have HA0 := hide hA0
  have HW := hide hw0
  have HGB : Hid (w0.cell? ⟨P, 0, none⟩ = some (.pointer (some ⟨AX, 0, none⟩)) ∧ w0.cell? ⟨P, 1, none⟩ = some (.pointer (some ⟨AY, 0, none⟩))) := hA0.cells
  clear h hn hi hK' hA0 hn0 hi0 kb kk b0 g0 hw0
  -- the calls, each of a state
  have SHX : Hid (∀ w' u t, AW K' w' P AX AY u t → Upd (fun k => ¬ K' k) w0 w' → Calls Try.prog 53 #[.pointer (some ⟨AX, 0, none⟩), .int .i64 id, .agg #[.int .i64 n.lv, n.hi.v, .int .i64 n.ri]] w' fun e w'' => e = .returned (.int .i64 (u.unlE id)) ∧ AW K' w'' P AX AY (u.hedS id n.lv n.hi.s n.ri) t ∧ Upd (fun k => ¬ K' k) w' w'') := fun w' u t hw hu => hw.X (fun F hp => px_setH hp id n.lv n.ri n.hi (HOK.out w' hu).h)
  have SHY : Hid (∀ w' u t, AW K' w' P AX AY u t → Upd (fun k => ¬ K' k) w0 w' → Calls Try.prog 54 #[.pointer (some ⟨AY, 0, none⟩), .int .i64 id, .agg #[.int .i64 n.lv, n.hi.v, .int .i64 n.ri]] w' fun e w'' => e = .returned (.int .i64 (t.unlE id)) ∧ AW K' w'' P AX AY u (t.hedS id n.lv n.hi.s n.ri) ∧ Upd (fun k => ¬ K' k) w' w'') := fun w' u t hw hu => hw.Y (fun F hp => rx_setH hp id n.lv n.ri n.hi (HOK.out w' hu).h)
  have SBX : Hid (∀ w' u t, AW K' w' P AX AY u t → Upd (fun k => ¬ K' k) w0 w' → Calls Try.prog 55 #[.pointer (some ⟨AX, 0, none⟩), .int .i64 id, .agg #[n.ks.v, n.vs.v, n.cs.v]] w' fun e w'' => e = .returned (.int .i64 (u.unlE id)) ∧ AW K' w'' P AX AY (u.bodS id n.ks.p n.vs.p n.cs.s) t ∧ Upd (fun k => ¬ K' k) w' w'') := fun w' u t hw hu => hw.X (fun F hp => px_setB hp id n.ks n.vs n.cs (HOK.out w' hu).k (HOK.out w' hu).v (HOK.out w' hu).c (HOK.out w' hu).kz (HOK.out w' hu).vz (HOK.out w' hu).cz)
  have SBY : Hid (∀ w' u t, AW K' w' P AX AY u t → Upd (fun k => ¬ K' k) w0 w' → Calls Try.prog 56 #[.pointer (some ⟨AY, 0, none⟩), .int .i64 id, .agg #[n.ks.v, n.vs.v, n.cs.v]] w' fun e w'' => e = .returned (.int .i64 (t.unlE id)) ∧ AW K' w'' P AX AY u (t.bodS id n.ks.p n.vs.p n.cs.s) ∧ Upd (fun k => ¬ K' k) w' w'') := fun w' u t hw hu => hw.Y (fun F hp => rx_setB hp id n.ks n.vs n.cs (HOK.out w' hu).k (HOK.out w' hu).v (HOK.out w' hu).c (HOK.out w' hu).kz (HOK.out w' hu).vz (HOK.out w' hu).cz)
  have ULX : Hid (∀ w' u t, AW K' w' P AX AY u t → Calls Try.prog 51 #[.pointer (some ⟨AX, 0, none⟩), .int .i64 id, .bool true] w' fun e w'' => e = .returned (.int .i64 (u.unlE id)) ∧ AW K' w'' P AX AY (u.unlS id true) t ∧ Upd (fun k => ¬ K' k) w' w'') := fun w' u t hw => hw.X (fun F hp => px_unlock hp id true)
  have ULY : Hid (∀ w' u t, AW K' w' P AX AY u t → Calls Try.prog 52 #[.pointer (some ⟨AY, 0, none⟩), .int .i64 id, .bool true] w' fun e w'' => e = .returned (.int .i64 (t.unlE id)) ∧ AW K' w'' P AX AY u (t.unlS id true) ∧ Upd (fun k => ¬ K' k) w' w'') := fun w' u t hw => hw.Y (fun F hp => rx_unlock hp id true)
  have HUS : Hid (∀ w', AW K' w' P AX AY s s → Calls Try.prog 60 #[.pointer (some ⟨AY, 0, none⟩)] w' fun e w'' => e = .returned (.int .i64 (s.sl.length : Nat)) ∧ w'' = w') := fun w' hw => aw_usedY hw
  have HU0 := hide (HUS.out w0 HA0.out)
  have ALX := hide (HA0.out.X (fun F hp => px_alloc hp))
  have ALY : Hid (∀ w' u, AW K' w' P AX AY u s → Calls Try.prog 48 #[.pointer (some ⟨AY, 0, none⟩)] w' fun e w'' => e = .returned (.tuple #[.int .i64 s.allI, .int .i64 s.allE]) ∧ AW K' w'' P AX AY u s.allS ∧ Upd (fun k => ¬ K' k) w' w'') := fun w' u hw => hw.Y (fun F hp => rx_alloc hp)
  have WRY := hide (aw_wordY HA0.out id)
  have LCK := hide (wlock_any HA0.out id (s.wordW id) (HA0.out.wlt id))
  have HFIN : Hid (∀ u : AS, u.finS id n.p = ((u.hedS id n.lv n.hi.s n.ri).bodS id n.ks.p n.vs.p n.cs.s).unlS id true) := fun u => rfl
  have HLAY : Hid (s.layS id n.p = if (s.sl.length : Int) < id then (if (s.sl.length : Int) < s.nodes then s.allS.finS id n.p else s) else (s.lockS id (s.wordW id)).finS id n.p) := rfl
  rw [HLAY.out]
  clear HLAY HOK
  obtain ⟨lv, ⟨ha, hc, hs⟩, ri, ⟨ka, kc, KL⟩, ⟨va, vc, V⟩, ⟨ca, cc, C⟩⟩ := n
  simp only [Nd.v, Tx.v, TL.v, IL.v] at HW HCE SHX SHY SBX SBY ⊢
  generalize Nd.p ⟨lv, ⟨ha, hc, hs⟩, ri, ⟨ka, kc, KL⟩, ⟨va, vc, V⟩, ⟨ca, cc, C⟩⟩ = np at *
  generalize hs.length = lh at *
  generalize KL.length = lk at *
  generalize V.length = lw at *
  generalize C.length = lc at *
  generalize TL.p ⟨ka, kc, KL⟩ = kp at *
  generalize TL.p ⟨va, vc, V⟩ = vp at *
  have Z0 := hide z0
  obtain ⟨m, hm⟩ : ∃ m, s.sl.length = m := ⟨_, rfl⟩
  rw [hm] at HU0 hl
  have HM := hide hm
  rw [hm]
  clear hm z0
  obtain ⟨c0, c1⟩ := HGB.out
  have e0 := c0
  have e1 := c1
  rw [HW.out] at e0 e1
  by_cases hgt : (m : Int) < id
  · rw [if_pos hgt]
    by_cases hroom : (m : Int) < s.nodes
    · rw [if_pos hroom]
      have hI : s.allI = (m : Int) + 1 := by unfold AS.allI; rw [HM.out, if_pos hroom]
      have hE : s.allE = 0 := by unfold AS.allE; rw [HM.out, if_pos hroom]
      rw [hI, hE] at ALX ALY
      clear hI hE
      go_enter Try.func59, Try.ntmps59
      go_wp2_with fail
      rw [← HW.out]
      clear e0 e1
      refine keep HU0.out ?_
      go_wp2_with fail
      refine ALX.out.mono ?_
      rintro e w1 ⟨rfl, hA, hU⟩
      obtain ⟨d0, d1⟩ := hA.cells
      have AY1 := hide (ALY.out w1 s.allS hA)
      have U1 := hide hU
      clear hA hU c0 c1
      go_wp2_with fail
      refine AY1.out.mono ?_
      rintro e w2 ⟨rfl, hA, hU⟩
      have A2 := hide hA
      have U2 := hide (U1.out.trans hU)
      clear hA hU d0 d1 AY1 U1
      obtain ⟨u0, hu0⟩ : ∃ u0, u0 = s.allS := ⟨_, rfl⟩
      rw [← hu0] at A2
      have HUU := hide hu0
      clear hu0 ALX ALY WRY LCK HUS HU0 HA0 HW
      obtain ⟨x0, x1⟩ := A2.out.cells
      obtain ⟨y0, y1, y2, y3, y4, y5⟩ := HCE.out w2 U2.out
      go_wp2_with fail
      go_region_held3 (fun W' => W'.cell? ⟨P, 0, none⟩ = some (.pointer (some ⟨AX, 0, none⟩)) ∧ W'.cell? ⟨W.heap.size, 0, none⟩ = some (.int .i64 lv) ∧ W'.cell? ⟨W.heap.size, 1, none⟩ = some (.slice ha lh hc) ∧ W'.cell? ⟨W.heap.size, 2, none⟩ = some (.int .i64 ri)) (go_keep) (first | (go_at_call 53; refine (SHX.out w2.drew u0 u0 (A2.out.below (below_drew (Below.refl _ _))) (U2.out.drew)).mono ?_; rintro e wq0 ⟨rfl, hA, hU'⟩; have A0 := hide hA; have V0 : Hid (Upd (fun k => ¬ K' k) w2 wq0) := ((Upd.refl _ w2).drew).trans hU'; have U0 := hide (U2.out.trans V0.out); have q0 := (hA.cells).1; have q1 := HCE.out wq0 U0.out; obtain ⟨r0, r1, r2, r3, r4, r5⟩ := q1; clear hA hU') | fail)
      clear x0 x1 y0 y1 y2 y3 y4 y5 q0 r0 r1 r2 r3 r4 r5 V0 SHX
      obtain ⟨x0, x1⟩ := A0.out.cells
      obtain ⟨y0, y1, y2, y3, y4, y5⟩ := HCE.out wq0 U0.out
      go_wp2_with fail
      go_region_held3 (fun W' => W'.cell? ⟨P, 1, none⟩ = some (.pointer (some ⟨AY, 0, none⟩)) ∧ W'.cell? ⟨W.heap.size, 0, none⟩ = some (.int .i64 lv) ∧ W'.cell? ⟨W.heap.size, 1, none⟩ = some (.slice ha lh hc) ∧ W'.cell? ⟨W.heap.size, 2, none⟩ = some (.int .i64 ri)) (go_keep) (first | (go_at_call 54; refine (SHY.out wq0.drew (u0.hedS id lv hs ri) u0 (A0.out.below (below_drew (Below.refl _ _))) (U0.out.drew)).mono ?_; rintro e wq1 ⟨rfl, hA, hU'⟩; have A1 := hide hA; have V1 : Hid (Upd (fun k => ¬ K' k) wq0 wq1) := ((Upd.refl _ wq0).drew).trans hU'; have U1 := hide (U0.out.trans V1.out); have q0 := (hA.cells).2; have q1 := HCE.out wq1 U1.out; obtain ⟨r0, r1, r2, r3, r4, r5⟩ := q1; clear hA hU') | fail)
      clear x0 x1 y0 y1 y2 y3 y4 y5 q0 r0 r1 r2 r3 r4 r5 V1 SHY
      obtain ⟨x0, x1⟩ := A1.out.cells
      obtain ⟨y0, y1, y2, y3, y4, y5⟩ := HCE.out wq1 U1.out
      go_wp2_with fail
      go_region_held3 (fun W' => W'.cell? ⟨P, 0, none⟩ = some (.pointer (some ⟨AX, 0, none⟩)) ∧ W'.cell? ⟨W.heap.size, 3, none⟩ = some (.slice ka lk kc) ∧ W'.cell? ⟨W.heap.size, 4, none⟩ = some (.slice va lw vc) ∧ W'.cell? ⟨W.heap.size, 5, none⟩ = some (.slice ca lc cc)) (go_keep) (first | (go_at_call 55; refine (SBX.out wq1.drew (u0.hedS id lv hs ri) (u0.hedS id lv hs ri) (A1.out.below (below_drew (Below.refl _ _))) (U1.out.drew)).mono ?_; rintro e wq2 ⟨rfl, hA, hU'⟩; have A2 := hide hA; have V2 : Hid (Upd (fun k => ¬ K' k) wq1 wq2) := ((Upd.refl _ wq1).drew).trans hU'; have U2 := hide (U1.out.trans V2.out); have q0 := (hA.cells).1; have q1 := HCE.out wq2 U2.out; obtain ⟨r0, r1, r2, r3, r4, r5⟩ := q1; clear hA hU') | fail)
      clear x0 x1 y0 y1 y2 y3 y4 y5 q0 r0 r1 r2 r3 r4 r5 V2 SBX
      obtain ⟨x0, x1⟩ := A2.out.cells
      obtain ⟨y0, y1, y2, y3, y4, y5⟩ := HCE.out wq2 U2.out
      go_wp2_with fail
      go_region_held3 (fun W' => W'.cell? ⟨P, 1, none⟩ = some (.pointer (some ⟨AY, 0, none⟩)) ∧ W'.cell? ⟨W.heap.size, 3, none⟩ = some (.slice ka lk kc) ∧ W'.cell? ⟨W.heap.size, 4, none⟩ = some (.slice va lw vc) ∧ W'.cell? ⟨W.heap.size, 5, none⟩ = some (.slice ca lc cc)) (go_keep) (first | (go_at_call 56; refine (SBY.out wq2.drew ((u0.hedS id lv hs ri).bodS id kp vp C) (u0.hedS id lv hs ri) (A2.out.below (below_drew (Below.refl _ _))) (U2.out.drew)).mono ?_; rintro e wq3 ⟨rfl, hA, hU'⟩; have A3 := hide hA; have V3 : Hid (Upd (fun k => ¬ K' k) wq2 wq3) := ((Upd.refl _ wq2).drew).trans hU'; have U3 := hide (U2.out.trans V3.out); have q0 := (hA.cells).2; have q1 := HCE.out wq3 U3.out; obtain ⟨r0, r1, r2, r3, r4, r5⟩ := q1; clear hA hU') | fail)
      clear x0 x1 y0 y1 y2 y3 y4 y5 q0 r0 r1 r2 r3 r4 r5 V3 SBY
      obtain ⟨x0, x1⟩ := A3.out.cells
      go_wp2_with fail
      refine (ULX.out wq3 ((u0.hedS id lv hs ri).bodS id kp vp C) ((u0.hedS id lv hs ri).bodS id kp vp C) A3.out).mono ?_
      rintro e wq4 ⟨rfl, hA, hU'⟩
      have A4 := hide hA
      have U4 := hide (U3.out.trans hU')
      clear hA hU' x0 x1 ULX
      obtain ⟨x0, x1⟩ := A4.out.cells
      go_wp2_with fail
      refine (ULY.out wq4 (((u0.hedS id lv hs ri).bodS id kp vp C).unlS id true) ((u0.hedS id lv hs ri).bodS id kp vp C) A4.out).mono ?_
      rintro e wq5 ⟨rfl, hA, hU'⟩
      have HF := hide (HEND.out wq5 (((u0.hedS id lv hs ri).bodS id kp vp C).unlS id true) hA (U4.out.trans hU'))
      clear hA hU' x0 x1 ULY HEND
      go_wp2_with fail
      go_ret
      have := HF.out
      rw [← HFIN.out, HUU.out] at this
      simpa using this
    · rw [if_neg hroom]
      have hI : s.allI = 0 := by unfold AS.allI; rw [HM.out, if_neg hroom]
      have hE : s.allE = 2 := by unfold AS.allE; rw [HM.out, if_neg hroom]
      have hS : s.allS = s := by unfold AS.allS; rw [HM.out, if_neg hroom]
      rw [hI, hE, hS] at ALX ALY
      clear hI hE hS
      go_enter Try.func59, Try.ntmps59
      go_wp2_with fail
      rw [← HW.out]
      clear e0 e1
      refine keep HU0.out ?_
      go_wp2_with fail
      refine ALX.out.mono ?_
      rintro e w1 ⟨rfl, hA, hU⟩
      obtain ⟨d0, d1⟩ := hA.cells
      have AY1 := hide (ALY.out w1 s hA)
      have U1 := hide hU
      clear hA hU c0 c1
      go_wp2_with fail
      refine AY1.out.mono ?_
      rintro e w2 ⟨rfl, hA, hU⟩
      have HF := hide (HEND.out w2 s hA (U1.out.trans hU))
      clear hA hU d0 d1 AY1 U1
      go_wp2_with fail
      go_ret
      exact HF.out
  · rw [if_neg hgt]
    go_enter Try.func59, Try.ntmps59
    go_wp2_with fail
    rw [← HW.out]
    clear e0 e1
    refine keep HU0.out ?_
    go_wp2_with fail
    refine keep WRY.out ?_
    go_wp2_with fail
    refine LCK.out.mono ?_
    rintro e w2 ⟨rfl, hA, hU⟩
    have A2 := hide hA
    have U2 := hide hU
    clear hA hU c0 c1
    obtain ⟨u0, hu0⟩ : ∃ u0, u0 = s.lockS id (s.wordW id) := ⟨_, rfl⟩
    rw [← hu0] at A2
    have HUU := hide hu0
    clear hu0 ALX ALY WRY LCK HUS HU0 HA0 HW
    obtain ⟨x0, x1⟩ := A2.out.cells
    obtain ⟨y0, y1, y2, y3, y4, y5⟩ := HCE.out w2 U2.out
    go_wp2_with fail
    go_region_held3 (fun W' => W'.cell? ⟨P, 0, none⟩ = some (.pointer (some ⟨AX, 0, none⟩)) ∧ W'.cell? ⟨W.heap.size, 0, none⟩ = some (.int .i64 lv) ∧ W'.cell? ⟨W.heap.size, 1, none⟩ = some (.slice ha lh hc) ∧ W'.cell? ⟨W.heap.size, 2, none⟩ = some (.int .i64 ri)) (go_keep) (first | (go_at_call 53; refine (SHX.out w2.drew u0 u0 (A2.out.below (below_drew (Below.refl _ _))) (U2.out.drew)).mono ?_; rintro e wq0 ⟨rfl, hA, hU'⟩; have A0 := hide hA; have V0 : Hid (Upd (fun k => ¬ K' k) w2 wq0) := ((Upd.refl _ w2).drew).trans hU'; have U0 := hide (U2.out.trans V0.out); have q0 := (hA.cells).1; have q1 := HCE.out wq0 U0.out; obtain ⟨r0, r1, r2, r3, r4, r5⟩ := q1; clear hA hU') | fail)
    clear x0 x1 y0 y1 y2 y3 y4 y5 q0 r0 r1 r2 r3 r4 r5 V0 SHX
    obtain ⟨x0, x1⟩ := A0.out.cells
    obtain ⟨y0, y1, y2, y3, y4, y5⟩ := HCE.out wq0 U0.out
    go_wp2_with fail
    go_region_held3 (fun W' => W'.cell? ⟨P, 1, none⟩ = some (.pointer (some ⟨AY, 0, none⟩)) ∧ W'.cell? ⟨W.heap.size, 0, none⟩ = some (.int .i64 lv) ∧ W'.cell? ⟨W.heap.size, 1, none⟩ = some (.slice ha lh hc) ∧ W'.cell? ⟨W.heap.size, 2, none⟩ = some (.int .i64 ri)) (go_keep) (first | (go_at_call 54; refine (SHY.out wq0.drew (u0.hedS id lv hs ri) u0 (A0.out.below (below_drew (Below.refl _ _))) (U0.out.drew)).mono ?_; rintro e wq1 ⟨rfl, hA, hU'⟩; have A1 := hide hA; have V1 : Hid (Upd (fun k => ¬ K' k) wq0 wq1) := ((Upd.refl _ wq0).drew).trans hU'; have U1 := hide (U0.out.trans V1.out); have q0 := (hA.cells).2; have q1 := HCE.out wq1 U1.out; obtain ⟨r0, r1, r2, r3, r4, r5⟩ := q1; clear hA hU') | fail)
    clear x0 x1 y0 y1 y2 y3 y4 y5 q0 r0 r1 r2 r3 r4 r5 V1 SHY
    obtain ⟨x0, x1⟩ := A1.out.cells
    obtain ⟨y0, y1, y2, y3, y4, y5⟩ := HCE.out wq1 U1.out
    go_wp2_with fail
    go_region_held3 (fun W' => W'.cell? ⟨P, 0, none⟩ = some (.pointer (some ⟨AX, 0, none⟩)) ∧ W'.cell? ⟨W.heap.size, 3, none⟩ = some (.slice ka lk kc) ∧ W'.cell? ⟨W.heap.size, 4, none⟩ = some (.slice va lw vc) ∧ W'.cell? ⟨W.heap.size, 5, none⟩ = some (.slice ca lc cc)) (go_keep) (first | (go_at_call 55; refine (SBX.out wq1.drew (u0.hedS id lv hs ri) (u0.hedS id lv hs ri) (A1.out.below (below_drew (Below.refl _ _))) (U1.out.drew)).mono ?_; rintro e wq2 ⟨rfl, hA, hU'⟩; have A2 := hide hA; have V2 : Hid (Upd (fun k => ¬ K' k) wq1 wq2) := ((Upd.refl _ wq1).drew).trans hU'; have U2 := hide (U1.out.trans V2.out); have q0 := (hA.cells).1; have q1 := HCE.out wq2 U2.out; obtain ⟨r0, r1, r2, r3, r4, r5⟩ := q1; clear hA hU') | fail)
    clear x0 x1 y0 y1 y2 y3 y4 y5 q0 r0 r1 r2 r3 r4 r5 V2 SBX
    obtain ⟨x0, x1⟩ := A2.out.cells
    obtain ⟨y0, y1, y2, y3, y4, y5⟩ := HCE.out wq2 U2.out
    go_wp2_with fail
    go_region_held3 (fun W' => W'.cell? ⟨P, 1, none⟩ = some (.pointer (some ⟨AY, 0, none⟩)) ∧ W'.cell? ⟨W.heap.size, 3, none⟩ = some (.slice ka lk kc) ∧ W'.cell? ⟨W.heap.size, 4, none⟩ = some (.slice va lw vc) ∧ W'.cell? ⟨W.heap.size, 5, none⟩ = some (.slice ca lc cc)) (go_keep) (first | (go_at_call 56; refine (SBY.out wq2.drew ((u0.hedS id lv hs ri).bodS id kp vp C) (u0.hedS id lv hs ri) (A2.out.below (below_drew (Below.refl _ _))) (U2.out.drew)).mono ?_; rintro e wq3 ⟨rfl, hA, hU'⟩; have A3 := hide hA; have V3 : Hid (Upd (fun k => ¬ K' k) wq2 wq3) := ((Upd.refl _ wq2).drew).trans hU'; have U3 := hide (U2.out.trans V3.out); have q0 := (hA.cells).2; have q1 := HCE.out wq3 U3.out; obtain ⟨r0, r1, r2, r3, r4, r5⟩ := q1; clear hA hU') | fail)
    clear x0 x1 y0 y1 y2 y3 y4 y5 q0 r0 r1 r2 r3 r4 r5 V3 SBY
    obtain ⟨x0, x1⟩ := A3.out.cells
    go_wp2_with fail
    refine (ULX.out wq3 ((u0.hedS id lv hs ri).bodS id kp vp C) ((u0.hedS id lv hs ri).bodS id kp vp C) A3.out).mono ?_
    rintro e wq4 ⟨rfl, hA, hU'⟩
    have A4 := hide hA
    have U4 := hide (U3.out.trans hU')
    clear hA hU' x0 x1 ULX
    obtain ⟨x0, x1⟩ := A4.out.cells
    go_wp2_with fail
    refine (ULY.out wq4 (((u0.hedS id lv hs ri).bodS id kp vp C).unlS id true) ((u0.hedS id lv hs ri).bodS id kp vp C) A4.out).mono ?_
    rintro e wq5 ⟨rfl, hA, hU'⟩
    have HF := hide (HEND.out wq5 (((u0.hedS id lv hs ri).bodS id kp vp C).unlS id true) hA (U4.out.trans hU'))
    clear hA hU' x0 x1 ULY HEND
    go_wp2_with fail
    go_ret
    have := HF.out
    rw [← HFIN.out, HUU.out] at this
    simpa using this
end

end Go.Proofs.Ytpfmfobnanhcdaa

namespace Go.Proofs.Ytpfmfobnanhcdaa
open Go.RowKit
set_option maxRecDepth 100000

/-- A call, as it is told. -/
structure AOp where
  kind : Int
  a : Int
  b : Int
  w : Nat
  ch : Bool
  n : Nd
def AOp.v (o : AOp) : Value := .agg #[.int .i64 o.kind, .int .i64 o.a, .int .i64 o.b, .int .u64 (o.w : Nat), .bool o.ch, .int .i64 o.n.lv, o.n.hi.v, .int .i64 o.n.ri, o.n.ks.v, o.n.vs.v, o.n.cs.v]
structure AOp.Ok (K : Nat → Prop) (W : World) (o : AOp) : Prop where
  k1 : -9223372036854775808 ≤ o.kind ∧ o.kind ≤ 9223372036854775807
  a1 : -9223372036854775808 ≤ o.a ∧ o.a ≤ 9223372036854775807
  b1 : -9223372036854775808 ≤ o.b ∧ o.b ≤ 9223372036854775807
  w1 : o.w < 18446744073709551616
  n : o.n.Ok W
  i : o.n.In K
theorem AOp.Ok.kept {K : Nat → Prop} {W W' : World} {o : AOp} (h : o.Ok K W) (hu : Upd (fun k => ¬ K k) W W') : o.Ok K W' := ⟨h.k1, h.a1, h.b1, h.w1, h.n.kept h.i hu, h.i⟩
/-- A sum of words. -/
def wadd (a b : Nat) : Nat := (a + b) % 18446744073709551616
theorem wadd_lt (a b : Nat) : wadd a b < 18446744073709551616 := Nat.mod_lt _ (by decide)
theorem wadd_eq (a b : Nat) : IntKind.u64.wrap ((a : Int) + (b : Int)) = ((wadd a b : Nat) : Int) := by
  rw [IntKind.wrap_u64]
  unfold wadd
  omega
/-- The number that is meant; what stands behind a call. -/
def AS.id (s : AS) (c : Int) : Int := ((pickN c (s.sl.length + 2) : Nat) : Int)
def AS.raw (s : AS) (o : AOp) : AS :=
  if pickN o.kind 9 = 0 then s.allS else if pickN o.kind 9 = 1 then s else if pickN o.kind 9 = 2 then s.lockS (s.id o.a) (wadd (s.wordW (s.id o.a)) (pickN o.b 3)) else
  if pickN o.kind 9 = 3 then s.unlS (s.id o.a) o.ch else if pickN o.kind 9 = 4 then s.hedS (s.id o.a) o.n.lv o.n.hi.s o.n.ri else if pickN o.kind 9 = 5 then s.bodS (s.id o.a) o.n.ks.p o.n.vs.p o.n.cs.s else
  if pickN o.kind 9 = 6 then s.groS (s.id o.a) (s.id o.b) else if pickN o.kind 9 = 7 then s.layS (1 + ((pickN o.a (s.sl.length + 1) : Nat) : Int)) o.n.p else s.lockS (s.id o.a) o.w
theorem row_cell {W : World} {b : Nat} {T : TypeId} {cs : Array Value} {v : Value} (h : W.heap[b]? = some (.cells cs T (0, 0))) (j : Nat) (hj : cs[j]? = some v) : W.cell? ⟨b, j, none⟩ = some v := by rw [cell_of_row _ _ _ _ _ _ h]; exact hj
section
variable {K : Nat → Prop} {W : World} {P AX AY : Nat} {s : AS}
set_option maxRecDepth 100000 in
set_option maxHeartbeats 3200000 in
theorem raw0 (h : AW K W P AX AY s s) (o : AOp) (ho : o.Ok K W) (hk : pickN o.kind 9 = 0) : Calls Try.prog 13 #[.pointer (some ⟨P, 0, none⟩), o.v] W (AwPost K W P AX AY s.allS) := by
  obtain ⟨kd, ra, rb, rw', ch, n⟩ := o
  obtain ⟨⟨k1, k2⟩, ⟨a1, a2⟩, ⟨b1, b2⟩, w1, hn, hi⟩ := ho
  simp only at hk k1 k2 a1 a2 b1 b2 w1 hn hi
  simp only [AOp.v]
  have hid : s.id ra = ((pickN ra (s.sl.length + 2) : Nat) : Int) := rfl
  obtain ⟨w0, hw0⟩ : ∃ w0, w0 = W.alloc (.cells #[.int .i64 kd, .int .i64 ra, .int .i64 rb, .int .u64 (rw' : Nat), .bool ch, .int .i64 n.lv, n.hi.v, .int .i64 n.ri, n.ks.v, n.vs.v, n.cs.v] 39) := ⟨_, rfl⟩
  have b0 : Below W.heap.size W w0 := by rw [hw0]; exact (Below.refl _ _).alloc (Nat.le_refl _) _
  have z0 : w0.heap.size = W.heap.size + 1 := by rw [hw0]; simp
  have g0 : w0.heap[W.heap.size]? = some (.cells #[.int .i64 kd, .int .i64 ra, .int .i64 rb, .int .u64 (rw' : Nat), .bool ch, .int .i64 n.lv, n.hi.v, .int .i64 n.ri, n.ks.v, n.vs.v, n.cs.v] 39 (0, 0)) := by rw [hw0]; exact heap_alloc_new W _
  obtain ⟨K', hK'⟩ : ∃ K' : Nat → Prop, K' = fun k => K k ∨ k = W.heap.size := ⟨_, rfl⟩
  have hA0 : AW K' w0 P AX AY s s := h.more b0 (fun k hk => by rw [hK'] at hk; rcases hk with hk | hk; exact .inl hk; exact .inr (by omega)) (by rw [hK']; exact .inl h.kp)
  have hi0 : n.In K' := hi.mono (fun k hk => by rw [hK']; exact .inl hk)
  have kb : K' W.heap.size := by rw [hK']; exact .inr rfl
  have kk : ∀ k, K k → K' k := fun k hk => by rw [hK']; exact .inl hk
  have HEND : Hid (∀ w' u, AW K' w' P AX AY u u → Upd (fun k => ¬ K' k) w0 w' → AwPost K W P AX AY u (.returned (.bool true)) w') := fun w' u h1 h2 => ⟨rfl, h1.less kk h.kp, (kept_below b0).trans (kept_less h2 kk)⟩
  have HCE : Hid (∀ w', Upd (fun k => ¬ K' k) w0 w' → w'.heap[W.heap.size]? = some (.cells #[.int .i64 kd, .int .i64 ra, .int .i64 rb, .int .u64 (rw' : Nat), .bool ch, .int .i64 n.lv, n.hi.v, .int .i64 n.ri, n.ks.v, n.vs.v, n.cs.v] 39 (0, 0))) := fun w' hu => kept_heap hu g0 kb
  have HOK : Hid (∀ w', Upd (fun k => ¬ K' k) w0 w' → n.Ok w') := fun w' hu => (hn.below b0).kept hi0 hu
  have HIN := hide hi0
  have HU0 : Hid (Upd (fun k => ¬ K' k) w0 w0) := Upd.refl _ _
  have HID := hide (wid_any hA0 ra a1 a2)
  have HIDB := hide (wid_any hA0 rb b1 b2)
  have HPK := hide (pick_any kd 9 w0 (by decide) (by decide) k1 k2)
  rw [hk, show (((0 : Nat)) : Int) = 0 from rfl, show (((9 : Nat)) : Int) = 9 from rfl] at HPK
  have HLEN := hide hA0.len
  obtain ⟨c0, c1⟩ := hA0.cells
  rw [← hid] at HID
  have HA0 := hide hA0
  have HW := hide hw0
  clear h hn hi hK' hA0 hi0 kb kk b0 hw0 z0 k1 k2 hk hid
  have ALX := hide (HA0.out.X (fun F hp => px_alloc hp))
  have ALY : Hid (∀ w' u, AW K' w' P AX AY u s → Calls Try.prog 48 #[.pointer (some ⟨AY, 0, none⟩)] w' fun e w'' => e = .returned (.tuple #[.int .i64 s.allI, .int .i64 s.allE]) ∧ AW K' w'' P AX AY u s.allS ∧ Upd (fun k => ¬ K' k) w' w'') := fun w' u hw => hw.Y (fun F hp => rx_alloc hp)
  obtain ⟨lv, ⟨ha, hc, hs⟩, ri, ⟨ka, kc, KL⟩, ⟨va, vc, V⟩, ⟨ca, cc, C⟩⟩ := n
  simp only [Tx.v, TL.v, IL.v] at *
  generalize hs.length = lh at *
  generalize KL.length = lk at *
  generalize V.length = lw at *
  generalize C.length = lc at *
  generalize s.allI = ai at *
  generalize s.allE = ae at *
  have y0 : w0.cell? ⟨W.heap.size, 0, none⟩ = some (.int .i64 kd) := row_cell g0 0 rfl
  have y1 : w0.cell? ⟨W.heap.size, 1, none⟩ = some (.int .i64 ra) := row_cell g0 1 rfl
  have y2 : w0.cell? ⟨W.heap.size, 2, none⟩ = some (.int .i64 rb) := row_cell g0 2 rfl
  have y3 : w0.cell? ⟨W.heap.size, 3, none⟩ = some (.int .u64 (rw' : Nat)) := row_cell g0 3 rfl
  have y4 : w0.cell? ⟨W.heap.size, 4, none⟩ = some (.bool ch) := row_cell g0 4 rfl
  have y5 : w0.cell? ⟨W.heap.size, 5, none⟩ = some (.int .i64 lv) := row_cell g0 5 rfl
  have y6 : w0.cell? ⟨W.heap.size, 6, none⟩ = some (.slice ha lh hc) := row_cell g0 6 rfl
  have y7 : w0.cell? ⟨W.heap.size, 7, none⟩ = some (.int .i64 ri) := row_cell g0 7 rfl
  have y8 : w0.cell? ⟨W.heap.size, 8, none⟩ = some (.slice ka lk kc) := row_cell g0 8 rfl
  have y9 : w0.cell? ⟨W.heap.size, 9, none⟩ = some (.slice va lw vc) := row_cell g0 9 rfl
  have y10 : w0.cell? ⟨W.heap.size, 10, none⟩ = some (.slice ca lc cc) := row_cell g0 10 rfl
  clear g0
  generalize s.id ra = id at *
  go_enter Try.func13, Try.ntmps13
  go_wp2_with fail
  rw [← HW.out]
  refine keep HID.out ?_
  go_wp2_with fail
  refine keep HPK.out ?_
  go_wp2_with fail
  refine ALX.out.mono ?_
  rintro e w1 ⟨rfl, hA, hU⟩
  obtain ⟨d0, d1⟩ := hA.cells
  have AY1 := hide (ALY.out w1 _ hA)
  have U1 := hide hU
  clear hA hU c0 c1
  go_wp2_with fail
  refine AY1.out.mono ?_
  rintro e w2 ⟨rfl, hA, hU⟩
  have HF := hide (HEND.out w2 _ hA (U1.out.trans hU))
  clear hA hU HEND
  go_wp2_with fail
  go_ret
  have := HF.out
  simpa using this
set_option maxRecDepth 100000 in
set_option maxHeartbeats 3200000 in
theorem raw1 (h : AW K W P AX AY s s) (o : AOp) (ho : o.Ok K W) (hk : pickN o.kind 9 = 1) : Calls Try.prog 13 #[.pointer (some ⟨P, 0, none⟩), o.v] W (AwPost K W P AX AY s) := by
  obtain ⟨kd, ra, rb, rw', ch, n⟩ := o
  obtain ⟨⟨k1, k2⟩, ⟨a1, a2⟩, ⟨b1, b2⟩, w1, hn, hi⟩ := ho
  simp only at hk k1 k2 a1 a2 b1 b2 w1 hn hi
  simp only [AOp.v]
  have hid : s.id ra = ((pickN ra (s.sl.length + 2) : Nat) : Int) := rfl
  obtain ⟨w0, hw0⟩ : ∃ w0, w0 = W.alloc (.cells #[.int .i64 kd, .int .i64 ra, .int .i64 rb, .int .u64 (rw' : Nat), .bool ch, .int .i64 n.lv, n.hi.v, .int .i64 n.ri, n.ks.v, n.vs.v, n.cs.v] 39) := ⟨_, rfl⟩
  have b0 : Below W.heap.size W w0 := by rw [hw0]; exact (Below.refl _ _).alloc (Nat.le_refl _) _
  have z0 : w0.heap.size = W.heap.size + 1 := by rw [hw0]; simp
  have g0 : w0.heap[W.heap.size]? = some (.cells #[.int .i64 kd, .int .i64 ra, .int .i64 rb, .int .u64 (rw' : Nat), .bool ch, .int .i64 n.lv, n.hi.v, .int .i64 n.ri, n.ks.v, n.vs.v, n.cs.v] 39 (0, 0)) := by rw [hw0]; exact heap_alloc_new W _
  obtain ⟨K', hK'⟩ : ∃ K' : Nat → Prop, K' = fun k => K k ∨ k = W.heap.size := ⟨_, rfl⟩
  have hA0 : AW K' w0 P AX AY s s := h.more b0 (fun k hk => by rw [hK'] at hk; rcases hk with hk | hk; exact .inl hk; exact .inr (by omega)) (by rw [hK']; exact .inl h.kp)
  have hi0 : n.In K' := hi.mono (fun k hk => by rw [hK']; exact .inl hk)
  have kb : K' W.heap.size := by rw [hK']; exact .inr rfl
  have kk : ∀ k, K k → K' k := fun k hk => by rw [hK']; exact .inl hk
  have HEND : Hid (∀ w' u, AW K' w' P AX AY u u → Upd (fun k => ¬ K' k) w0 w' → AwPost K W P AX AY u (.returned (.bool true)) w') := fun w' u h1 h2 => ⟨rfl, h1.less kk h.kp, (kept_below b0).trans (kept_less h2 kk)⟩
  have HCE : Hid (∀ w', Upd (fun k => ¬ K' k) w0 w' → w'.heap[W.heap.size]? = some (.cells #[.int .i64 kd, .int .i64 ra, .int .i64 rb, .int .u64 (rw' : Nat), .bool ch, .int .i64 n.lv, n.hi.v, .int .i64 n.ri, n.ks.v, n.vs.v, n.cs.v] 39 (0, 0))) := fun w' hu => kept_heap hu g0 kb
  have HOK : Hid (∀ w', Upd (fun k => ¬ K' k) w0 w' → n.Ok w') := fun w' hu => (hn.below b0).kept hi0 hu
  have HIN := hide hi0
  have HU0 : Hid (Upd (fun k => ¬ K' k) w0 w0) := Upd.refl _ _
  have HID := hide (wid_any hA0 ra a1 a2)
  have HIDB := hide (wid_any hA0 rb b1 b2)
  have HPK := hide (pick_any kd 9 w0 (by decide) (by decide) k1 k2)
  rw [hk, show (((1 : Nat)) : Int) = 1 from rfl, show (((9 : Nat)) : Int) = 9 from rfl] at HPK
  have HLEN := hide hA0.len
  obtain ⟨c0, c1⟩ := hA0.cells
  rw [← hid] at HID
  have HA0 := hide hA0
  have HW := hide hw0
  clear h hn hi hK' hA0 hi0 kb kk b0 hw0 z0 k1 k2 hk hid
  have WX : Hid (∀ w', AW K' w' P AX AY s s → Calls Try.prog 19 #[.pointer (some ⟨AX, 0, none⟩), .int .i64 ra] w' fun e w'' => e = .returned (.tuple #[.int .u64 (s.wordW ra : Nat), .int .i64 (s.wordE ra)]) ∧ AW K' w'' P AX AY s s ∧ Upd (fun k => ¬ K' k) w' w'') := fun w' hw => (aw_wordX hw ra).mono fun e w'' ⟨h1, h2⟩ => ⟨h1, by rw [h2]; exact hw, by rw [h2]; exact Upd.refl _ _⟩
  have WY : Hid (∀ w', AW K' w' P AX AY s s → Calls Try.prog 49 #[.pointer (some ⟨AY, 0, none⟩), .int .i64 ra] w' fun e w'' => e = .returned (.tuple #[.int .u64 (s.wordW ra : Nat), .int .i64 (s.wordE ra)]) ∧ AW K' w'' P AX AY s s ∧ Upd (fun k => ¬ K' k) w' w'') := fun w' hw => (aw_wordY hw ra).mono fun e w'' ⟨h1, h2⟩ => ⟨h1, by rw [h2]; exact hw, by rw [h2]; exact Upd.refl _ _⟩
  obtain ⟨lv, ⟨ha, hc, hs⟩, ri, ⟨ka, kc, KL⟩, ⟨va, vc, V⟩, ⟨ca, cc, C⟩⟩ := n
  simp only [Tx.v, TL.v, IL.v] at *
  generalize hs.length = lh at *
  generalize KL.length = lk at *
  generalize V.length = lw at *
  generalize C.length = lc at *
  generalize s.wordW ra = ww at *
  generalize s.wordE ra = we at *
  have y0 : w0.cell? ⟨W.heap.size, 0, none⟩ = some (.int .i64 kd) := row_cell g0 0 rfl
  have y1 : w0.cell? ⟨W.heap.size, 1, none⟩ = some (.int .i64 ra) := row_cell g0 1 rfl
  have y2 : w0.cell? ⟨W.heap.size, 2, none⟩ = some (.int .i64 rb) := row_cell g0 2 rfl
  have y3 : w0.cell? ⟨W.heap.size, 3, none⟩ = some (.int .u64 (rw' : Nat)) := row_cell g0 3 rfl
  have y4 : w0.cell? ⟨W.heap.size, 4, none⟩ = some (.bool ch) := row_cell g0 4 rfl
  have y5 : w0.cell? ⟨W.heap.size, 5, none⟩ = some (.int .i64 lv) := row_cell g0 5 rfl
  have y6 : w0.cell? ⟨W.heap.size, 6, none⟩ = some (.slice ha lh hc) := row_cell g0 6 rfl
  have y7 : w0.cell? ⟨W.heap.size, 7, none⟩ = some (.int .i64 ri) := row_cell g0 7 rfl
  have y8 : w0.cell? ⟨W.heap.size, 8, none⟩ = some (.slice ka lk kc) := row_cell g0 8 rfl
  have y9 : w0.cell? ⟨W.heap.size, 9, none⟩ = some (.slice va lw vc) := row_cell g0 9 rfl
  have y10 : w0.cell? ⟨W.heap.size, 10, none⟩ = some (.slice ca lc cc) := row_cell g0 10 rfl
  clear g0
  generalize s.id ra = id at *
  go_enter Try.func13, Try.ntmps13
  go_wp2_with fail
  rw [← HW.out]
  refine keep HID.out ?_
  go_wp2_with fail
  refine keep HPK.out ?_
  go_wp2_with fail
  go_region_held3 (fun W' => W'.cell? ⟨P, 0, none⟩ = some (.pointer (some ⟨AX, 0, none⟩)) ∧ W'.cell? ⟨W.heap.size, 1, none⟩ = some (.int .i64 ra)) (go_keep) (first
    | (go_at_call 19; refine (WX.out w0.drew (HA0.out.below (below_drew (Below.refl _ _)))).mono ?_; rintro e w1 ⟨rfl, hA, hU⟩; have A1 := hide hA; have U1 : Hid (Upd (fun k => ¬ K' k) w0 w1) := ((Upd.refl _ w0).drew).trans hU; obtain ⟨d0, d1⟩ := hA.cells; have z1 := row_cell (HCE.out w1 U1.out) 1 rfl; clear hA hU)
    | fail)
  clear c0 c1 y0 y1 y2 y3 y4 y5 y6 y7 y8 y9 y10
  go_wp2_with fail
  go_region_held3 (fun W' => W'.cell? ⟨P, 1, none⟩ = some (.pointer (some ⟨AY, 0, none⟩)) ∧ W'.cell? ⟨W.heap.size, 1, none⟩ = some (.int .i64 ra)) (go_keep) (first
    | (go_at_call 49; refine (WY.out w1.drew (A1.out.below (below_drew (Below.refl _ _)))).mono ?_; rintro e w2 ⟨rfl, hA, hU⟩; have A2 := hide hA; have U2 := hide (U1.out.trans (((Upd.refl _ w1).drew).trans hU)); obtain ⟨f0, f1⟩ := hA.cells; have v1 := row_cell (HCE.out w2 U2.out) 1 rfl; clear hA hU)
    | fail)
  have HF := hide (HEND.out w2 _ A2.out U2.out)
  clear HEND d0 d1 z1 f0 f1 v1
  go_wp2_with fail
  go_ret
  have := HF.out
  simpa using this
end

end Go.Proofs.Ytpfmfobnanhcdaa

namespace Go.Proofs.Ytpfmfobnanhcdaa
open Go.RowKit
set_option maxRecDepth 100000
section
variable {K : Nat → Prop} {W : World} {P AX AY : Nat} {s : AS}
set_option maxRecDepth 100000 in
set_option maxHeartbeats 3200000 in
theorem raw2 (h : AW K W P AX AY s s) (o : AOp) (ho : o.Ok K W) (hk : pickN o.kind 9 = 2) : Calls Try.prog 13 #[.pointer (some ⟨P, 0, none⟩), o.v] W (AwPost K W P AX AY (s.lockS (s.id o.a) (wadd (s.wordW (s.id o.a)) (pickN o.b 3)))) := by
  obtain ⟨kd, ra, rb, rw', ch, n⟩ := o
  obtain ⟨⟨k1, k2⟩, ⟨a1, a2⟩, ⟨b1, b2⟩, w1, hn, hi⟩ := ho
  simp only at hk k1 k2 a1 a2 b1 b2 w1 hn hi
  simp only [AOp.v]
  have hid : s.id ra = ((pickN ra (s.sl.length + 2) : Nat) : Int) := rfl
  obtain ⟨w0, hw0⟩ : ∃ w0, w0 = W.alloc (.cells #[.int .i64 kd, .int .i64 ra, .int .i64 rb, .int .u64 (rw' : Nat), .bool ch, .int .i64 n.lv, n.hi.v, .int .i64 n.ri, n.ks.v, n.vs.v, n.cs.v] 39) := ⟨_, rfl⟩
  have b0 : Below W.heap.size W w0 := by rw [hw0]; exact (Below.refl _ _).alloc (Nat.le_refl _) _
  have z0 : w0.heap.size = W.heap.size + 1 := by rw [hw0]; simp
  have g0 : w0.heap[W.heap.size]? = some (.cells #[.int .i64 kd, .int .i64 ra, .int .i64 rb, .int .u64 (rw' : Nat), .bool ch, .int .i64 n.lv, n.hi.v, .int .i64 n.ri, n.ks.v, n.vs.v, n.cs.v] 39 (0, 0)) := by rw [hw0]; exact heap_alloc_new W _
  obtain ⟨K', hK'⟩ : ∃ K' : Nat → Prop, K' = fun k => K k ∨ k = W.heap.size := ⟨_, rfl⟩
  have hA0 : AW K' w0 P AX AY s s := h.more b0 (fun k hk => by rw [hK'] at hk; rcases hk with hk | hk; exact .inl hk; exact .inr (by omega)) (by rw [hK']; exact .inl h.kp)
  have hi0 : n.In K' := hi.mono (fun k hk => by rw [hK']; exact .inl hk)
  have kb : K' W.heap.size := by rw [hK']; exact .inr rfl
  have kk : ∀ k, K k → K' k := fun k hk => by rw [hK']; exact .inl hk
  have HEND : Hid (∀ w' u, AW K' w' P AX AY u u → Upd (fun k => ¬ K' k) w0 w' → AwPost K W P AX AY u (.returned (.bool true)) w') := fun w' u h1 h2 => ⟨rfl, h1.less kk h.kp, (kept_below b0).trans (kept_less h2 kk)⟩
  have HCE : Hid (∀ w', Upd (fun k => ¬ K' k) w0 w' → w'.heap[W.heap.size]? = some (.cells #[.int .i64 kd, .int .i64 ra, .int .i64 rb, .int .u64 (rw' : Nat), .bool ch, .int .i64 n.lv, n.hi.v, .int .i64 n.ri, n.ks.v, n.vs.v, n.cs.v] 39 (0, 0))) := fun w' hu => kept_heap hu g0 kb
  have HOK : Hid (∀ w', Upd (fun k => ¬ K' k) w0 w' → n.Ok w') := fun w' hu => (hn.below b0).kept hi0 hu
  have HIN := hide hi0
  have HU0 : Hid (Upd (fun k => ¬ K' k) w0 w0) := Upd.refl _ _
  have HID := hide (wid_any hA0 ra a1 a2)
  have HIDB := hide (wid_any hA0 rb b1 b2)
  have HPK := hide (pick_any kd 9 w0 (by decide) (by decide) k1 k2)
  rw [hk, show (((2 : Nat)) : Int) = 2 from rfl, show (((9 : Nat)) : Int) = 9 from rfl] at HPK
  have HLEN := hide hA0.len
  obtain ⟨c0, c1⟩ := hA0.cells
  rw [← hid] at HID
  have HA0 := hide hA0
  have HW := hide hw0
  clear h hn hi hK' hA0 hi0 kb kk b0 hw0 z0 k1 k2 hk hid
  have WY := hide (aw_wordY HA0.out (s.id ra))
  have HPB := hide (pick_any rb 3 w0 (by decide) (by decide) b1 b2)
  rw [show (((3 : Nat)) : Int) = 3 from rfl] at HPB
  have hpb := pickN_lt rb 3 (by decide)
  have LCK := hide (wlock_any HA0.out (s.id ra) (wadd (s.wordW (s.id ra)) (pickN rb 3)) (wadd_lt _ _))
  have HNM := hide (wadd_eq (s.wordW (s.id ra)) (pickN rb 3))
  obtain ⟨lv, ⟨ha, hc, hs⟩, ri, ⟨ka, kc, KL⟩, ⟨va, vc, V⟩, ⟨ca, cc, C⟩⟩ := n
  simp only [Tx.v, TL.v, IL.v] at *
  generalize hs.length = lh at *
  generalize KL.length = lk at *
  generalize V.length = lw at *
  generalize C.length = lc at *
  generalize wadd (s.wordW (s.id ra)) (pickN rb 3) = xx at *
  generalize s.wordW (s.id ra) = ww at *
  generalize s.wordE (s.id ra) = we at *
  generalize pickN rb 3 = pb at *
  have y0 : w0.cell? ⟨W.heap.size, 0, none⟩ = some (.int .i64 kd) := row_cell g0 0 rfl
  have y1 : w0.cell? ⟨W.heap.size, 1, none⟩ = some (.int .i64 ra) := row_cell g0 1 rfl
  have y2 : w0.cell? ⟨W.heap.size, 2, none⟩ = some (.int .i64 rb) := row_cell g0 2 rfl
  have y3 : w0.cell? ⟨W.heap.size, 3, none⟩ = some (.int .u64 (rw' : Nat)) := row_cell g0 3 rfl
  have y4 : w0.cell? ⟨W.heap.size, 4, none⟩ = some (.bool ch) := row_cell g0 4 rfl
  have y5 : w0.cell? ⟨W.heap.size, 5, none⟩ = some (.int .i64 lv) := row_cell g0 5 rfl
  have y6 : w0.cell? ⟨W.heap.size, 6, none⟩ = some (.slice ha lh hc) := row_cell g0 6 rfl
  have y7 : w0.cell? ⟨W.heap.size, 7, none⟩ = some (.int .i64 ri) := row_cell g0 7 rfl
  have y8 : w0.cell? ⟨W.heap.size, 8, none⟩ = some (.slice ka lk kc) := row_cell g0 8 rfl
  have y9 : w0.cell? ⟨W.heap.size, 9, none⟩ = some (.slice va lw vc) := row_cell g0 9 rfl
  have y10 : w0.cell? ⟨W.heap.size, 10, none⟩ = some (.slice ca lc cc) := row_cell g0 10 rfl
  clear g0
  generalize s.id ra = id at *
  go_enter Try.func13, Try.ntmps13
  go_wp2_with fail
  rw [← HW.out]
  refine keep HID.out ?_
  go_wp2_with fail
  refine keep HPK.out ?_
  go_wp2_with fail
  refine keep WY.out ?_
  go_wp2_with fail
  refine keep HPB.out ?_
  go_wp2_with fail
  rw [HNM.out]
  refine LCK.out.mono ?_
  rintro e w2 ⟨rfl, hA, hU⟩
  have HF := hide (HEND.out w2 _ hA hU)
  clear hA hU HEND
  go_wp2_with fail
  go_ret
  exact HF.out
set_option maxRecDepth 100000 in
set_option maxHeartbeats 3200000 in
theorem raw3 (h : AW K W P AX AY s s) (o : AOp) (ho : o.Ok K W) (hk : pickN o.kind 9 = 3) : Calls Try.prog 13 #[.pointer (some ⟨P, 0, none⟩), o.v] W (AwPost K W P AX AY (s.unlS (s.id o.a) o.ch)) := by
  obtain ⟨kd, ra, rb, rw', ch, n⟩ := o
  obtain ⟨⟨k1, k2⟩, ⟨a1, a2⟩, ⟨b1, b2⟩, w1, hn, hi⟩ := ho
  simp only at hk k1 k2 a1 a2 b1 b2 w1 hn hi
  simp only [AOp.v]
  have hid : s.id ra = ((pickN ra (s.sl.length + 2) : Nat) : Int) := rfl
  obtain ⟨w0, hw0⟩ : ∃ w0, w0 = W.alloc (.cells #[.int .i64 kd, .int .i64 ra, .int .i64 rb, .int .u64 (rw' : Nat), .bool ch, .int .i64 n.lv, n.hi.v, .int .i64 n.ri, n.ks.v, n.vs.v, n.cs.v] 39) := ⟨_, rfl⟩
  have b0 : Below W.heap.size W w0 := by rw [hw0]; exact (Below.refl _ _).alloc (Nat.le_refl _) _
  have z0 : w0.heap.size = W.heap.size + 1 := by rw [hw0]; simp
  have g0 : w0.heap[W.heap.size]? = some (.cells #[.int .i64 kd, .int .i64 ra, .int .i64 rb, .int .u64 (rw' : Nat), .bool ch, .int .i64 n.lv, n.hi.v, .int .i64 n.ri, n.ks.v, n.vs.v, n.cs.v] 39 (0, 0)) := by rw [hw0]; exact heap_alloc_new W _
  obtain ⟨K', hK'⟩ : ∃ K' : Nat → Prop, K' = fun k => K k ∨ k = W.heap.size := ⟨_, rfl⟩
  have hA0 : AW K' w0 P AX AY s s := h.more b0 (fun k hk => by rw [hK'] at hk; rcases hk with hk | hk; exact .inl hk; exact .inr (by omega)) (by rw [hK']; exact .inl h.kp)
  have hi0 : n.In K' := hi.mono (fun k hk => by rw [hK']; exact .inl hk)
  have kb : K' W.heap.size := by rw [hK']; exact .inr rfl
  have kk : ∀ k, K k → K' k := fun k hk => by rw [hK']; exact .inl hk
  have HEND : Hid (∀ w' u, AW K' w' P AX AY u u → Upd (fun k => ¬ K' k) w0 w' → AwPost K W P AX AY u (.returned (.bool true)) w') := fun w' u h1 h2 => ⟨rfl, h1.less kk h.kp, (kept_below b0).trans (kept_less h2 kk)⟩
  have HCE : Hid (∀ w', Upd (fun k => ¬ K' k) w0 w' → w'.heap[W.heap.size]? = some (.cells #[.int .i64 kd, .int .i64 ra, .int .i64 rb, .int .u64 (rw' : Nat), .bool ch, .int .i64 n.lv, n.hi.v, .int .i64 n.ri, n.ks.v, n.vs.v, n.cs.v] 39 (0, 0))) := fun w' hu => kept_heap hu g0 kb
  have HOK : Hid (∀ w', Upd (fun k => ¬ K' k) w0 w' → n.Ok w') := fun w' hu => (hn.below b0).kept hi0 hu
  have HIN := hide hi0
  have HU0 : Hid (Upd (fun k => ¬ K' k) w0 w0) := Upd.refl _ _
  have HID := hide (wid_any hA0 ra a1 a2)
  have HIDB := hide (wid_any hA0 rb b1 b2)
  have HPK := hide (pick_any kd 9 w0 (by decide) (by decide) k1 k2)
  rw [hk, show (((3 : Nat)) : Int) = 3 from rfl, show (((9 : Nat)) : Int) = 9 from rfl] at HPK
  have HLEN := hide hA0.len
  obtain ⟨c0, c1⟩ := hA0.cells
  rw [← hid] at HID
  have HA0 := hide hA0
  have HW := hide hw0
  clear h hn hi hK' hA0 hi0 kb kk b0 hw0 z0 k1 k2 hk hid
  have CX : Hid (∀ w', AW K' w' P AX AY s s → Upd (fun k => ¬ K' k) w0 w' → Calls Try.prog 51 #[.pointer (some ⟨AX, 0, none⟩), .int .i64 (s.id ra), .bool ch] w' fun e w'' => e = .returned (.int .i64 (s.unlE (s.id ra))) ∧ AW K' w'' P AX AY (s.unlS (s.id ra) ch) s ∧ Upd (fun k => ¬ K' k) w' w'') := fun w' hw _ => hw.X (fun F hp => px_unlock hp (s.id ra) ch)
  have CY : Hid (∀ w' u, AW K' w' P AX AY u s → Upd (fun k => ¬ K' k) w0 w' → Calls Try.prog 52 #[.pointer (some ⟨AY, 0, none⟩), .int .i64 (s.id ra), .bool ch] w' fun e w'' => e = .returned (.int .i64 (s.unlE (s.id ra))) ∧ AW K' w'' P AX AY u (s.unlS (s.id ra) ch) ∧ Upd (fun k => ¬ K' k) w' w'') := fun w' u hw _ => hw.Y (fun F hp => rx_unlock hp (s.id ra) ch)
  obtain ⟨lv, ⟨ha, hc, hs⟩, ri, ⟨ka, kc, KL⟩, ⟨va, vc, V⟩, ⟨ca, cc, C⟩⟩ := n
  simp only [Tx.v, TL.v, IL.v] at *
  generalize s.unlE (s.id ra) = ue at *
  generalize hs.length = lh at *
  generalize KL.length = lk at *
  generalize V.length = lw at *
  generalize C.length = lc at *
  have y0 : w0.cell? ⟨W.heap.size, 0, none⟩ = some (.int .i64 kd) := row_cell g0 0 rfl
  have y1 : w0.cell? ⟨W.heap.size, 1, none⟩ = some (.int .i64 ra) := row_cell g0 1 rfl
  have y2 : w0.cell? ⟨W.heap.size, 2, none⟩ = some (.int .i64 rb) := row_cell g0 2 rfl
  have y3 : w0.cell? ⟨W.heap.size, 3, none⟩ = some (.int .u64 (rw' : Nat)) := row_cell g0 3 rfl
  have y4 : w0.cell? ⟨W.heap.size, 4, none⟩ = some (.bool ch) := row_cell g0 4 rfl
  have y5 : w0.cell? ⟨W.heap.size, 5, none⟩ = some (.int .i64 lv) := row_cell g0 5 rfl
  have y6 : w0.cell? ⟨W.heap.size, 6, none⟩ = some (.slice ha lh hc) := row_cell g0 6 rfl
  have y7 : w0.cell? ⟨W.heap.size, 7, none⟩ = some (.int .i64 ri) := row_cell g0 7 rfl
  have y8 : w0.cell? ⟨W.heap.size, 8, none⟩ = some (.slice ka lk kc) := row_cell g0 8 rfl
  have y9 : w0.cell? ⟨W.heap.size, 9, none⟩ = some (.slice va lw vc) := row_cell g0 9 rfl
  have y10 : w0.cell? ⟨W.heap.size, 10, none⟩ = some (.slice ca lc cc) := row_cell g0 10 rfl
  clear g0
  generalize s.id ra = id at *
  go_enter Try.func13, Try.ntmps13
  go_wp2_with fail
  rw [← HW.out]
  refine keep HID.out ?_
  go_wp2_with fail
  refine keep HPK.out ?_
  go_wp2_with fail
  go_region_held3 (fun W' => W'.cell? ⟨P, 0, none⟩ = some (.pointer (some ⟨AX, 0, none⟩)) ∧ W'.cell? ⟨P, 1, none⟩ = some (.pointer (some ⟨AY, 0, none⟩)) ∧ W'.cell? ⟨W.heap.size, 4, none⟩ = some (.bool ch)) (go_keep) (first
    | (go_at_call 52; refine (CY.out w1 _ A1.out U1.out).mono ?_; rintro e w2 ⟨rfl, hA, hU⟩; have A2 := hide hA; have U2 := hide (U1.out.trans hU); obtain ⟨f0, f1⟩ := hA.cells; have t4 := row_cell (HCE.out w2 U2.out) 4 rfl; clear hA hU)
    | (go_at_call 51; refine (CX.out w0.drew (HA0.out.below (below_drew (Below.refl _ _))) (HU0.out.drew)).mono ?_; rintro e w1 ⟨rfl, hA, hU⟩; have A1 := hide hA; have U1 : Hid (Upd (fun k => ¬ K' k) w0 w1) := ((Upd.refl _ w0).drew).trans hU; obtain ⟨d0, d1⟩ := hA.cells; have u4 := row_cell (HCE.out w1 U1.out) 4 rfl; clear hA hU)
    | fail)
  have HF := hide (HEND.out w2 _ A2.out U2.out)
  clear HEND d0 d1 f0 f1
  go_wp2_with fail
  go_ret
  have := HF.out
  simpa using this
end

end Go.Proofs.Ytpfmfobnanhcdaa

namespace Go.Proofs.Ytpfmfobnanhcdaa
open Go.RowKit
set_option maxRecDepth 100000
section
variable {K : Nat → Prop} {W : World} {P AX AY : Nat} {s : AS}
set_option maxRecDepth 100000 in
set_option maxHeartbeats 3200000 in
theorem raw4 (h : AW K W P AX AY s s) (o : AOp) (ho : o.Ok K W) (hk : pickN o.kind 9 = 4) : Calls Try.prog 13 #[.pointer (some ⟨P, 0, none⟩), o.v] W (AwPost K W P AX AY (s.hedS (s.id o.a) o.n.lv o.n.hi.s o.n.ri)) := by
  obtain ⟨kd, ra, rb, rw', ch, n⟩ := o
  obtain ⟨⟨k1, k2⟩, ⟨a1, a2⟩, ⟨b1, b2⟩, w1, hn, hi⟩ := ho
  simp only at hk k1 k2 a1 a2 b1 b2 w1 hn hi
  simp only [AOp.v]
  have hid : s.id ra = ((pickN ra (s.sl.length + 2) : Nat) : Int) := rfl
  obtain ⟨w0, hw0⟩ : ∃ w0, w0 = W.alloc (.cells #[.int .i64 kd, .int .i64 ra, .int .i64 rb, .int .u64 (rw' : Nat), .bool ch, .int .i64 n.lv, n.hi.v, .int .i64 n.ri, n.ks.v, n.vs.v, n.cs.v] 39) := ⟨_, rfl⟩
  have b0 : Below W.heap.size W w0 := by rw [hw0]; exact (Below.refl _ _).alloc (Nat.le_refl _) _
  have z0 : w0.heap.size = W.heap.size + 1 := by rw [hw0]; simp
  have g0 : w0.heap[W.heap.size]? = some (.cells #[.int .i64 kd, .int .i64 ra, .int .i64 rb, .int .u64 (rw' : Nat), .bool ch, .int .i64 n.lv, n.hi.v, .int .i64 n.ri, n.ks.v, n.vs.v, n.cs.v] 39 (0, 0)) := by rw [hw0]; exact heap_alloc_new W _
  obtain ⟨K', hK'⟩ : ∃ K' : Nat → Prop, K' = fun k => K k ∨ k = W.heap.size := ⟨_, rfl⟩
  have hA0 : AW K' w0 P AX AY s s := h.more b0 (fun k hk => by rw [hK'] at hk; rcases hk with hk | hk; exact .inl hk; exact .inr (by omega)) (by rw [hK']; exact .inl h.kp)
  have hi0 : n.In K' := hi.mono (fun k hk => by rw [hK']; exact .inl hk)
  have kb : K' W.heap.size := by rw [hK']; exact .inr rfl
  have kk : ∀ k, K k → K' k := fun k hk => by rw [hK']; exact .inl hk
  have HEND : Hid (∀ w' u, AW K' w' P AX AY u u → Upd (fun k => ¬ K' k) w0 w' → AwPost K W P AX AY u (.returned (.bool true)) w') := fun w' u h1 h2 => ⟨rfl, h1.less kk h.kp, (kept_below b0).trans (kept_less h2 kk)⟩
  have HCE : Hid (∀ w', Upd (fun k => ¬ K' k) w0 w' → w'.heap[W.heap.size]? = some (.cells #[.int .i64 kd, .int .i64 ra, .int .i64 rb, .int .u64 (rw' : Nat), .bool ch, .int .i64 n.lv, n.hi.v, .int .i64 n.ri, n.ks.v, n.vs.v, n.cs.v] 39 (0, 0))) := fun w' hu => kept_heap hu g0 kb
  have HOK : Hid (∀ w', Upd (fun k => ¬ K' k) w0 w' → n.Ok w') := fun w' hu => (hn.below b0).kept hi0 hu
  have HIN := hide hi0
  have HU0 : Hid (Upd (fun k => ¬ K' k) w0 w0) := Upd.refl _ _
  have HID := hide (wid_any hA0 ra a1 a2)
  have HIDB := hide (wid_any hA0 rb b1 b2)
  have HPK := hide (pick_any kd 9 w0 (by decide) (by decide) k1 k2)
  rw [hk, show (((4 : Nat)) : Int) = 4 from rfl, show (((9 : Nat)) : Int) = 9 from rfl] at HPK
  have HLEN := hide hA0.len
  obtain ⟨c0, c1⟩ := hA0.cells
  rw [← hid] at HID
  have HA0 := hide hA0
  have HW := hide hw0
  clear h hn hi hK' hA0 hi0 kb kk b0 hw0 z0 k1 k2 hk hid
  have CX : Hid (∀ w', AW K' w' P AX AY s s → Upd (fun k => ¬ K' k) w0 w' → Calls Try.prog 53 #[.pointer (some ⟨AX, 0, none⟩), .int .i64 (s.id ra), .agg #[.int .i64 n.lv, n.hi.v, .int .i64 n.ri]] w' fun e w'' => e = .returned (.int .i64 (s.unlE (s.id ra))) ∧ AW K' w'' P AX AY (s.hedS (s.id ra) n.lv n.hi.s n.ri) s ∧ Upd (fun k => ¬ K' k) w' w'') := fun w' hw hu => hw.X (fun F hp => px_setH hp (s.id ra) n.lv n.ri n.hi (HOK.out w' hu).h)
  have CY : Hid (∀ w' u, AW K' w' P AX AY u s → Upd (fun k => ¬ K' k) w0 w' → Calls Try.prog 54 #[.pointer (some ⟨AY, 0, none⟩), .int .i64 (s.id ra), .agg #[.int .i64 n.lv, n.hi.v, .int .i64 n.ri]] w' fun e w'' => e = .returned (.int .i64 (s.unlE (s.id ra))) ∧ AW K' w'' P AX AY u (s.hedS (s.id ra) n.lv n.hi.s n.ri) ∧ Upd (fun k => ¬ K' k) w' w'') := fun w' u hw hu => hw.Y (fun F hp => rx_setH hp (s.id ra) n.lv n.ri n.hi (HOK.out w' hu).h)
  obtain ⟨lv, ⟨ha, hc, hs⟩, ri, ⟨ka, kc, KL⟩, ⟨va, vc, V⟩, ⟨ca, cc, C⟩⟩ := n
  simp only [Tx.v, TL.v, IL.v] at *
  generalize s.unlE (s.id ra) = ue at *
  generalize hs.length = lh at *
  generalize KL.length = lk at *
  generalize V.length = lw at *
  generalize C.length = lc at *
  have y0 : w0.cell? ⟨W.heap.size, 0, none⟩ = some (.int .i64 kd) := row_cell g0 0 rfl
  have y1 : w0.cell? ⟨W.heap.size, 1, none⟩ = some (.int .i64 ra) := row_cell g0 1 rfl
  have y2 : w0.cell? ⟨W.heap.size, 2, none⟩ = some (.int .i64 rb) := row_cell g0 2 rfl
  have y3 : w0.cell? ⟨W.heap.size, 3, none⟩ = some (.int .u64 (rw' : Nat)) := row_cell g0 3 rfl
  have y4 : w0.cell? ⟨W.heap.size, 4, none⟩ = some (.bool ch) := row_cell g0 4 rfl
  have y5 : w0.cell? ⟨W.heap.size, 5, none⟩ = some (.int .i64 lv) := row_cell g0 5 rfl
  have y6 : w0.cell? ⟨W.heap.size, 6, none⟩ = some (.slice ha lh hc) := row_cell g0 6 rfl
  have y7 : w0.cell? ⟨W.heap.size, 7, none⟩ = some (.int .i64 ri) := row_cell g0 7 rfl
  have y8 : w0.cell? ⟨W.heap.size, 8, none⟩ = some (.slice ka lk kc) := row_cell g0 8 rfl
  have y9 : w0.cell? ⟨W.heap.size, 9, none⟩ = some (.slice va lw vc) := row_cell g0 9 rfl
  have y10 : w0.cell? ⟨W.heap.size, 10, none⟩ = some (.slice ca lc cc) := row_cell g0 10 rfl
  clear g0
  generalize s.id ra = id at *
  go_enter Try.func13, Try.ntmps13
  go_wp2_with fail
  rw [← HW.out]
  refine keep HID.out ?_
  go_wp2_with fail
  refine keep HPK.out ?_
  go_wp2_with fail
  go_region_held3 (fun W' => W'.cell? ⟨P, 0, none⟩ = some (.pointer (some ⟨AX, 0, none⟩)) ∧ W'.cell? ⟨P, 1, none⟩ = some (.pointer (some ⟨AY, 0, none⟩)) ∧ W'.cell? ⟨W.heap.size, 5, none⟩ = some (.int .i64 lv) ∧ W'.cell? ⟨W.heap.size, 6, none⟩ = some (.slice ha lh hc) ∧ W'.cell? ⟨W.heap.size, 7, none⟩ = some (.int .i64 ri)) (go_keep) (first
    | (go_at_call 54; refine (CY.out w1 _ A1.out U1.out).mono ?_; rintro e w2 ⟨rfl, hA, hU⟩; have A2 := hide hA; have U2 := hide (U1.out.trans hU); obtain ⟨f0, f1⟩ := hA.cells; have t5 := row_cell (HCE.out w2 U2.out) 5 rfl; have t6 := row_cell (HCE.out w2 U2.out) 6 rfl; have t7 := row_cell (HCE.out w2 U2.out) 7 rfl; clear hA hU)
    | (go_at_call 53; refine (CX.out w0.drew (HA0.out.below (below_drew (Below.refl _ _))) (HU0.out.drew)).mono ?_; rintro e w1 ⟨rfl, hA, hU⟩; have A1 := hide hA; have U1 : Hid (Upd (fun k => ¬ K' k) w0 w1) := ((Upd.refl _ w0).drew).trans hU; obtain ⟨d0, d1⟩ := hA.cells; have u5 := row_cell (HCE.out w1 U1.out) 5 rfl; have u6 := row_cell (HCE.out w1 U1.out) 6 rfl; have u7 := row_cell (HCE.out w1 U1.out) 7 rfl; clear hA hU)
    | fail)
  have HF := hide (HEND.out w2 _ A2.out U2.out)
  clear HEND d0 d1 f0 f1
  go_wp2_with fail
  go_ret
  have := HF.out
  simpa using this
set_option maxRecDepth 100000 in
set_option maxHeartbeats 3200000 in
theorem raw5 (h : AW K W P AX AY s s) (o : AOp) (ho : o.Ok K W) (hk : pickN o.kind 9 = 5) : Calls Try.prog 13 #[.pointer (some ⟨P, 0, none⟩), o.v] W (AwPost K W P AX AY (s.bodS (s.id o.a) o.n.ks.p o.n.vs.p o.n.cs.s)) := by
  obtain ⟨kd, ra, rb, rw', ch, n⟩ := o
  obtain ⟨⟨k1, k2⟩, ⟨a1, a2⟩, ⟨b1, b2⟩, w1, hn, hi⟩ := ho
  simp only at hk k1 k2 a1 a2 b1 b2 w1 hn hi
  simp only [AOp.v]
  have hid : s.id ra = ((pickN ra (s.sl.length + 2) : Nat) : Int) := rfl
  obtain ⟨w0, hw0⟩ : ∃ w0, w0 = W.alloc (.cells #[.int .i64 kd, .int .i64 ra, .int .i64 rb, .int .u64 (rw' : Nat), .bool ch, .int .i64 n.lv, n.hi.v, .int .i64 n.ri, n.ks.v, n.vs.v, n.cs.v] 39) := ⟨_, rfl⟩
  have b0 : Below W.heap.size W w0 := by rw [hw0]; exact (Below.refl _ _).alloc (Nat.le_refl _) _
  have z0 : w0.heap.size = W.heap.size + 1 := by rw [hw0]; simp
  have g0 : w0.heap[W.heap.size]? = some (.cells #[.int .i64 kd, .int .i64 ra, .int .i64 rb, .int .u64 (rw' : Nat), .bool ch, .int .i64 n.lv, n.hi.v, .int .i64 n.ri, n.ks.v, n.vs.v, n.cs.v] 39 (0, 0)) := by rw [hw0]; exact heap_alloc_new W _
  obtain ⟨K', hK'⟩ : ∃ K' : Nat → Prop, K' = fun k => K k ∨ k = W.heap.size := ⟨_, rfl⟩
  have hA0 : AW K' w0 P AX AY s s := h.more b0 (fun k hk => by rw [hK'] at hk; rcases hk with hk | hk; exact .inl hk; exact .inr (by omega)) (by rw [hK']; exact .inl h.kp)
  have hi0 : n.In K' := hi.mono (fun k hk => by rw [hK']; exact .inl hk)
  have kb : K' W.heap.size := by rw [hK']; exact .inr rfl
  have kk : ∀ k, K k → K' k := fun k hk => by rw [hK']; exact .inl hk
  have HEND : Hid (∀ w' u, AW K' w' P AX AY u u → Upd (fun k => ¬ K' k) w0 w' → AwPost K W P AX AY u (.returned (.bool true)) w') := fun w' u h1 h2 => ⟨rfl, h1.less kk h.kp, (kept_below b0).trans (kept_less h2 kk)⟩
  have HCE : Hid (∀ w', Upd (fun k => ¬ K' k) w0 w' → w'.heap[W.heap.size]? = some (.cells #[.int .i64 kd, .int .i64 ra, .int .i64 rb, .int .u64 (rw' : Nat), .bool ch, .int .i64 n.lv, n.hi.v, .int .i64 n.ri, n.ks.v, n.vs.v, n.cs.v] 39 (0, 0))) := fun w' hu => kept_heap hu g0 kb
  have HOK : Hid (∀ w', Upd (fun k => ¬ K' k) w0 w' → n.Ok w') := fun w' hu => (hn.below b0).kept hi0 hu
  have HIN := hide hi0
  have HU0 : Hid (Upd (fun k => ¬ K' k) w0 w0) := Upd.refl _ _
  have HID := hide (wid_any hA0 ra a1 a2)
  have HIDB := hide (wid_any hA0 rb b1 b2)
  have HPK := hide (pick_any kd 9 w0 (by decide) (by decide) k1 k2)
  rw [hk, show (((5 : Nat)) : Int) = 5 from rfl, show (((9 : Nat)) : Int) = 9 from rfl] at HPK
  have HLEN := hide hA0.len
  obtain ⟨c0, c1⟩ := hA0.cells
  rw [← hid] at HID
  have HA0 := hide hA0
  have HW := hide hw0
  clear h hn hi hK' hA0 hi0 kb kk b0 hw0 z0 k1 k2 hk hid
  have CX : Hid (∀ w', AW K' w' P AX AY s s → Upd (fun k => ¬ K' k) w0 w' → Calls Try.prog 55 #[.pointer (some ⟨AX, 0, none⟩), .int .i64 (s.id ra), .agg #[n.ks.v, n.vs.v, n.cs.v]] w' fun e w'' => e = .returned (.int .i64 (s.unlE (s.id ra))) ∧ AW K' w'' P AX AY (s.bodS (s.id ra) n.ks.p n.vs.p n.cs.s) s ∧ Upd (fun k => ¬ K' k) w' w'') := fun w' hw hu => hw.X (fun F hp => px_setB hp (s.id ra) n.ks n.vs n.cs (HOK.out w' hu).k (HOK.out w' hu).v (HOK.out w' hu).c (HOK.out w' hu).kz (HOK.out w' hu).vz (HOK.out w' hu).cz)
  have CY : Hid (∀ w' u, AW K' w' P AX AY u s → Upd (fun k => ¬ K' k) w0 w' → Calls Try.prog 56 #[.pointer (some ⟨AY, 0, none⟩), .int .i64 (s.id ra), .agg #[n.ks.v, n.vs.v, n.cs.v]] w' fun e w'' => e = .returned (.int .i64 (s.unlE (s.id ra))) ∧ AW K' w'' P AX AY u (s.bodS (s.id ra) n.ks.p n.vs.p n.cs.s) ∧ Upd (fun k => ¬ K' k) w' w'') := fun w' u hw hu => hw.Y (fun F hp => rx_setB hp (s.id ra) n.ks n.vs n.cs (HOK.out w' hu).k (HOK.out w' hu).v (HOK.out w' hu).c (HOK.out w' hu).kz (HOK.out w' hu).vz (HOK.out w' hu).cz)
  obtain ⟨lv, ⟨ha, hc, hs⟩, ri, ⟨ka, kc, KL⟩, ⟨va, vc, V⟩, ⟨ca, cc, C⟩⟩ := n
  simp only [Tx.v, TL.v, IL.v] at *
  generalize s.unlE (s.id ra) = ue at *
  generalize hs.length = lh at *
  generalize KL.length = lk at *
  generalize V.length = lw at *
  generalize C.length = lc at *
  have y0 : w0.cell? ⟨W.heap.size, 0, none⟩ = some (.int .i64 kd) := row_cell g0 0 rfl
  have y1 : w0.cell? ⟨W.heap.size, 1, none⟩ = some (.int .i64 ra) := row_cell g0 1 rfl
  have y2 : w0.cell? ⟨W.heap.size, 2, none⟩ = some (.int .i64 rb) := row_cell g0 2 rfl
  have y3 : w0.cell? ⟨W.heap.size, 3, none⟩ = some (.int .u64 (rw' : Nat)) := row_cell g0 3 rfl
  have y4 : w0.cell? ⟨W.heap.size, 4, none⟩ = some (.bool ch) := row_cell g0 4 rfl
  have y5 : w0.cell? ⟨W.heap.size, 5, none⟩ = some (.int .i64 lv) := row_cell g0 5 rfl
  have y6 : w0.cell? ⟨W.heap.size, 6, none⟩ = some (.slice ha lh hc) := row_cell g0 6 rfl
  have y7 : w0.cell? ⟨W.heap.size, 7, none⟩ = some (.int .i64 ri) := row_cell g0 7 rfl
  have y8 : w0.cell? ⟨W.heap.size, 8, none⟩ = some (.slice ka lk kc) := row_cell g0 8 rfl
  have y9 : w0.cell? ⟨W.heap.size, 9, none⟩ = some (.slice va lw vc) := row_cell g0 9 rfl
  have y10 : w0.cell? ⟨W.heap.size, 10, none⟩ = some (.slice ca lc cc) := row_cell g0 10 rfl
  clear g0
  generalize s.id ra = id at *
  go_enter Try.func13, Try.ntmps13
  go_wp2_with fail
  rw [← HW.out]
  refine keep HID.out ?_
  go_wp2_with fail
  refine keep HPK.out ?_
  go_wp2_with fail
  go_region_held3 (fun W' => W'.cell? ⟨P, 0, none⟩ = some (.pointer (some ⟨AX, 0, none⟩)) ∧ W'.cell? ⟨P, 1, none⟩ = some (.pointer (some ⟨AY, 0, none⟩)) ∧ W'.cell? ⟨W.heap.size, 8, none⟩ = some (.slice ka lk kc) ∧ W'.cell? ⟨W.heap.size, 9, none⟩ = some (.slice va lw vc) ∧ W'.cell? ⟨W.heap.size, 10, none⟩ = some (.slice ca lc cc)) (go_keep) (first
    | (go_at_call 56; refine (CY.out w1 _ A1.out U1.out).mono ?_; rintro e w2 ⟨rfl, hA, hU⟩; have A2 := hide hA; have U2 := hide (U1.out.trans hU); obtain ⟨f0, f1⟩ := hA.cells; have t8 := row_cell (HCE.out w2 U2.out) 8 rfl; have t9 := row_cell (HCE.out w2 U2.out) 9 rfl; have t10 := row_cell (HCE.out w2 U2.out) 10 rfl; clear hA hU)
    | (go_at_call 55; refine (CX.out w0.drew (HA0.out.below (below_drew (Below.refl _ _))) (HU0.out.drew)).mono ?_; rintro e w1 ⟨rfl, hA, hU⟩; have A1 := hide hA; have U1 : Hid (Upd (fun k => ¬ K' k) w0 w1) := ((Upd.refl _ w0).drew).trans hU; obtain ⟨d0, d1⟩ := hA.cells; have u8 := row_cell (HCE.out w1 U1.out) 8 rfl; have u9 := row_cell (HCE.out w1 U1.out) 9 rfl; have u10 := row_cell (HCE.out w1 U1.out) 10 rfl; clear hA hU)
    | fail)
  have HF := hide (HEND.out w2 _ A2.out U2.out)
  clear HEND d0 d1 f0 f1
  go_wp2_with fail
  go_ret
  have := HF.out
  simpa using this
end

end Go.Proofs.Ytpfmfobnanhcdaa

namespace Go.Proofs.Ytpfmfobnanhcdaa
open Go.RowKit
set_option maxRecDepth 100000
section
variable {K : Nat → Prop} {W : World} {P AX AY : Nat} {s : AS}
set_option maxRecDepth 100000 in
set_option maxHeartbeats 3200000 in
theorem raw6 (h : AW K W P AX AY s s) (o : AOp) (ho : o.Ok K W) (hk : pickN o.kind 9 = 6) : Calls Try.prog 13 #[.pointer (some ⟨P, 0, none⟩), o.v] W (AwPost K W P AX AY (s.groS (s.id o.a) (s.id o.b))) := by
  obtain ⟨kd, ra, rb, rw', ch, n⟩ := o
  obtain ⟨⟨k1, k2⟩, ⟨a1, a2⟩, ⟨b1, b2⟩, w1, hn, hi⟩ := ho
  simp only at hk k1 k2 a1 a2 b1 b2 w1 hn hi
  simp only [AOp.v]
  have hid : s.id ra = ((pickN ra (s.sl.length + 2) : Nat) : Int) := rfl
  obtain ⟨w0, hw0⟩ : ∃ w0, w0 = W.alloc (.cells #[.int .i64 kd, .int .i64 ra, .int .i64 rb, .int .u64 (rw' : Nat), .bool ch, .int .i64 n.lv, n.hi.v, .int .i64 n.ri, n.ks.v, n.vs.v, n.cs.v] 39) := ⟨_, rfl⟩
  have b0 : Below W.heap.size W w0 := by rw [hw0]; exact (Below.refl _ _).alloc (Nat.le_refl _) _
  have z0 : w0.heap.size = W.heap.size + 1 := by rw [hw0]; simp
  have g0 : w0.heap[W.heap.size]? = some (.cells #[.int .i64 kd, .int .i64 ra, .int .i64 rb, .int .u64 (rw' : Nat), .bool ch, .int .i64 n.lv, n.hi.v, .int .i64 n.ri, n.ks.v, n.vs.v, n.cs.v] 39 (0, 0)) := by rw [hw0]; exact heap_alloc_new W _
  obtain ⟨K', hK'⟩ : ∃ K' : Nat → Prop, K' = fun k => K k ∨ k = W.heap.size := ⟨_, rfl⟩
  have hA0 : AW K' w0 P AX AY s s := h.more b0 (fun k hk => by rw [hK'] at hk; rcases hk with hk | hk; exact .inl hk; exact .inr (by omega)) (by rw [hK']; exact .inl h.kp)
  have hi0 : n.In K' := hi.mono (fun k hk => by rw [hK']; exact .inl hk)
  have kb : K' W.heap.size := by rw [hK']; exact .inr rfl
  have kk : ∀ k, K k → K' k := fun k hk => by rw [hK']; exact .inl hk
  have HEND : Hid (∀ w' u, AW K' w' P AX AY u u → Upd (fun k => ¬ K' k) w0 w' → AwPost K W P AX AY u (.returned (.bool true)) w') := fun w' u h1 h2 => ⟨rfl, h1.less kk h.kp, (kept_below b0).trans (kept_less h2 kk)⟩
  have HCE : Hid (∀ w', Upd (fun k => ¬ K' k) w0 w' → w'.heap[W.heap.size]? = some (.cells #[.int .i64 kd, .int .i64 ra, .int .i64 rb, .int .u64 (rw' : Nat), .bool ch, .int .i64 n.lv, n.hi.v, .int .i64 n.ri, n.ks.v, n.vs.v, n.cs.v] 39 (0, 0))) := fun w' hu => kept_heap hu g0 kb
  have HOK : Hid (∀ w', Upd (fun k => ¬ K' k) w0 w' → n.Ok w') := fun w' hu => (hn.below b0).kept hi0 hu
  have HIN := hide hi0
  have HU0 : Hid (Upd (fun k => ¬ K' k) w0 w0) := Upd.refl _ _
  have HID := hide (wid_any hA0 ra a1 a2)
  have HIDB := hide (wid_any hA0 rb b1 b2)
  have HPK := hide (pick_any kd 9 w0 (by decide) (by decide) k1 k2)
  rw [hk, show (((6 : Nat)) : Int) = 6 from rfl, show (((9 : Nat)) : Int) = 9 from rfl] at HPK
  have HLEN := hide hA0.len
  obtain ⟨c0, c1⟩ := hA0.cells
  rw [← hid] at HID
  have HA0 := hide hA0
  have HW := hide hw0
  clear h hn hi hK' hA0 hi0 kb kk b0 hw0 z0 k1 k2 hk hid
  rw [show ((pickN rb (s.sl.length + 2) : Nat) : Int) = s.id rb from rfl] at HIDB
  have GX := hide (HA0.out.X (fun F hp => px_grow hp (s.id ra) (s.id rb)))
  have GY : Hid (∀ w' u, AW K' w' P AX AY u s → Calls Try.prog 58 #[.pointer (some ⟨AY, 0, none⟩), .int .i64 (s.id ra), .int .i64 (s.id rb)] w' fun e w'' => e = .returned (.tuple #[.bool (s.groB (s.id ra) (s.id rb)), .int .i64 (s.wordE (s.id rb))]) ∧ AW K' w'' P AX AY u (s.groS (s.id ra) (s.id rb)) ∧ Upd (fun k => ¬ K' k) w' w'') := fun w' u hw => hw.Y (fun F hp => rx_grow hp (s.id ra) (s.id rb))
  obtain ⟨lv, ⟨ha, hc, hs⟩, ri, ⟨ka, kc, KL⟩, ⟨va, vc, V⟩, ⟨ca, cc, C⟩⟩ := n
  simp only [Tx.v, TL.v, IL.v] at *
  generalize hs.length = lh at *
  generalize KL.length = lk at *
  generalize V.length = lw at *
  generalize C.length = lc at *
  generalize s.groB (s.id ra) (s.id rb) = gb at *
  generalize s.wordE (s.id rb) = ge at *
  generalize s.groS (s.id ra) (s.id rb) = gs at *
  generalize s.id rb = idb at *
  have y0 : w0.cell? ⟨W.heap.size, 0, none⟩ = some (.int .i64 kd) := row_cell g0 0 rfl
  have y1 : w0.cell? ⟨W.heap.size, 1, none⟩ = some (.int .i64 ra) := row_cell g0 1 rfl
  have y2 : w0.cell? ⟨W.heap.size, 2, none⟩ = some (.int .i64 rb) := row_cell g0 2 rfl
  have y3 : w0.cell? ⟨W.heap.size, 3, none⟩ = some (.int .u64 (rw' : Nat)) := row_cell g0 3 rfl
  have y4 : w0.cell? ⟨W.heap.size, 4, none⟩ = some (.bool ch) := row_cell g0 4 rfl
  have y5 : w0.cell? ⟨W.heap.size, 5, none⟩ = some (.int .i64 lv) := row_cell g0 5 rfl
  have y6 : w0.cell? ⟨W.heap.size, 6, none⟩ = some (.slice ha lh hc) := row_cell g0 6 rfl
  have y7 : w0.cell? ⟨W.heap.size, 7, none⟩ = some (.int .i64 ri) := row_cell g0 7 rfl
  have y8 : w0.cell? ⟨W.heap.size, 8, none⟩ = some (.slice ka lk kc) := row_cell g0 8 rfl
  have y9 : w0.cell? ⟨W.heap.size, 9, none⟩ = some (.slice va lw vc) := row_cell g0 9 rfl
  have y10 : w0.cell? ⟨W.heap.size, 10, none⟩ = some (.slice ca lc cc) := row_cell g0 10 rfl
  clear g0
  generalize s.id ra = id at *
  go_enter Try.func13, Try.ntmps13
  go_wp2_with fail
  rw [← HW.out]
  refine keep HID.out ?_
  go_wp2_with fail
  refine keep HPK.out ?_
  go_wp2_with fail
  refine keep HIDB.out ?_
  go_wp2_with fail
  refine GX.out.mono ?_
  rintro e w1 ⟨rfl, hA, hU⟩
  obtain ⟨d0, d1⟩ := hA.cells
  have AY1 := hide (GY.out w1 _ hA)
  have U1 := hide hU
  clear hA hU c0 c1
  go_wp2_with fail
  refine AY1.out.mono ?_
  rintro e w2 ⟨rfl, hA, hU⟩
  have HF := hide (HEND.out w2 _ hA (U1.out.trans hU))
  clear hA hU HEND
  go_wp2_with fail
  go_ret
  have := HF.out
  simpa using this
set_option maxRecDepth 100000 in
set_option maxHeartbeats 3200000 in
theorem raw8 (h : AW K W P AX AY s s) (o : AOp) (ho : o.Ok K W) (hk : pickN o.kind 9 = 8) : Calls Try.prog 13 #[.pointer (some ⟨P, 0, none⟩), o.v] W (AwPost K W P AX AY (s.lockS (s.id o.a) o.w)) := by
  obtain ⟨kd, ra, rb, rw', ch, n⟩ := o
  obtain ⟨⟨k1, k2⟩, ⟨a1, a2⟩, ⟨b1, b2⟩, w1, hn, hi⟩ := ho
  simp only at hk k1 k2 a1 a2 b1 b2 w1 hn hi
  simp only [AOp.v]
  have hid : s.id ra = ((pickN ra (s.sl.length + 2) : Nat) : Int) := rfl
  obtain ⟨w0, hw0⟩ : ∃ w0, w0 = W.alloc (.cells #[.int .i64 kd, .int .i64 ra, .int .i64 rb, .int .u64 (rw' : Nat), .bool ch, .int .i64 n.lv, n.hi.v, .int .i64 n.ri, n.ks.v, n.vs.v, n.cs.v] 39) := ⟨_, rfl⟩
  have b0 : Below W.heap.size W w0 := by rw [hw0]; exact (Below.refl _ _).alloc (Nat.le_refl _) _
  have z0 : w0.heap.size = W.heap.size + 1 := by rw [hw0]; simp
  have g0 : w0.heap[W.heap.size]? = some (.cells #[.int .i64 kd, .int .i64 ra, .int .i64 rb, .int .u64 (rw' : Nat), .bool ch, .int .i64 n.lv, n.hi.v, .int .i64 n.ri, n.ks.v, n.vs.v, n.cs.v] 39 (0, 0)) := by rw [hw0]; exact heap_alloc_new W _
  obtain ⟨K', hK'⟩ : ∃ K' : Nat → Prop, K' = fun k => K k ∨ k = W.heap.size := ⟨_, rfl⟩
  have hA0 : AW K' w0 P AX AY s s := h.more b0 (fun k hk => by rw [hK'] at hk; rcases hk with hk | hk; exact .inl hk; exact .inr (by omega)) (by rw [hK']; exact .inl h.kp)
  have hi0 : n.In K' := hi.mono (fun k hk => by rw [hK']; exact .inl hk)
  have kb : K' W.heap.size := by rw [hK']; exact .inr rfl
  have kk : ∀ k, K k → K' k := fun k hk => by rw [hK']; exact .inl hk
  have HEND : Hid (∀ w' u, AW K' w' P AX AY u u → Upd (fun k => ¬ K' k) w0 w' → AwPost K W P AX AY u (.returned (.bool true)) w') := fun w' u h1 h2 => ⟨rfl, h1.less kk h.kp, (kept_below b0).trans (kept_less h2 kk)⟩
  have HCE : Hid (∀ w', Upd (fun k => ¬ K' k) w0 w' → w'.heap[W.heap.size]? = some (.cells #[.int .i64 kd, .int .i64 ra, .int .i64 rb, .int .u64 (rw' : Nat), .bool ch, .int .i64 n.lv, n.hi.v, .int .i64 n.ri, n.ks.v, n.vs.v, n.cs.v] 39 (0, 0))) := fun w' hu => kept_heap hu g0 kb
  have HOK : Hid (∀ w', Upd (fun k => ¬ K' k) w0 w' → n.Ok w') := fun w' hu => (hn.below b0).kept hi0 hu
  have HIN := hide hi0
  have HU0 : Hid (Upd (fun k => ¬ K' k) w0 w0) := Upd.refl _ _
  have HID := hide (wid_any hA0 ra a1 a2)
  have HIDB := hide (wid_any hA0 rb b1 b2)
  have HPK := hide (pick_any kd 9 w0 (by decide) (by decide) k1 k2)
  rw [hk, show (((8 : Nat)) : Int) = 8 from rfl, show (((9 : Nat)) : Int) = 9 from rfl] at HPK
  have HLEN := hide hA0.len
  obtain ⟨c0, c1⟩ := hA0.cells
  rw [← hid] at HID
  have HA0 := hide hA0
  have HW := hide hw0
  clear h hn hi hK' hA0 hi0 kb kk b0 hw0 z0 k1 k2 hk hid
  have LCK := hide (wlock_any HA0.out (s.id ra) rw' w1)
  obtain ⟨lv, ⟨ha, hc, hs⟩, ri, ⟨ka, kc, KL⟩, ⟨va, vc, V⟩, ⟨ca, cc, C⟩⟩ := n
  simp only [Tx.v, TL.v, IL.v] at *
  generalize hs.length = lh at *
  generalize KL.length = lk at *
  generalize V.length = lw at *
  generalize C.length = lc at *
  have y0 : w0.cell? ⟨W.heap.size, 0, none⟩ = some (.int .i64 kd) := row_cell g0 0 rfl
  have y1 : w0.cell? ⟨W.heap.size, 1, none⟩ = some (.int .i64 ra) := row_cell g0 1 rfl
  have y2 : w0.cell? ⟨W.heap.size, 2, none⟩ = some (.int .i64 rb) := row_cell g0 2 rfl
  have y3 : w0.cell? ⟨W.heap.size, 3, none⟩ = some (.int .u64 (rw' : Nat)) := row_cell g0 3 rfl
  have y4 : w0.cell? ⟨W.heap.size, 4, none⟩ = some (.bool ch) := row_cell g0 4 rfl
  have y5 : w0.cell? ⟨W.heap.size, 5, none⟩ = some (.int .i64 lv) := row_cell g0 5 rfl
  have y6 : w0.cell? ⟨W.heap.size, 6, none⟩ = some (.slice ha lh hc) := row_cell g0 6 rfl
  have y7 : w0.cell? ⟨W.heap.size, 7, none⟩ = some (.int .i64 ri) := row_cell g0 7 rfl
  have y8 : w0.cell? ⟨W.heap.size, 8, none⟩ = some (.slice ka lk kc) := row_cell g0 8 rfl
  have y9 : w0.cell? ⟨W.heap.size, 9, none⟩ = some (.slice va lw vc) := row_cell g0 9 rfl
  have y10 : w0.cell? ⟨W.heap.size, 10, none⟩ = some (.slice ca lc cc) := row_cell g0 10 rfl
  clear g0
  generalize s.id ra = id at *
  go_enter Try.func13, Try.ntmps13
  go_wp2_with fail
  rw [← HW.out]
  refine keep HID.out ?_
  go_wp2_with fail
  refine keep HPK.out ?_
  go_wp2_with fail
  refine LCK.out.mono ?_
  rintro e w2 ⟨rfl, hA, hU⟩
  have HF := hide (HEND.out w2 _ hA hU)
  clear hA hU HEND
  go_wp2_with fail
  go_ret
  exact HF.out
end

end Go.Proofs.Ytpfmfobnanhcdaa

namespace Go.Proofs.Ytpfmfobnanhcdaa
open Go.RowKit
set_option maxRecDepth 100000
section
variable {K : Nat → Prop} {W : World} {P AX AY : Nat} {s : AS}
set_option maxRecDepth 100000 in
set_option maxHeartbeats 3200000 in
theorem raw7 (h : AW K W P AX AY s s) (o : AOp) (ho : o.Ok K W) (hk : pickN o.kind 9 = 7) : Calls Try.prog 13 #[.pointer (some ⟨P, 0, none⟩), o.v] W (AwPost K W P AX AY (s.layS (1 + ((pickN o.a (s.sl.length + 1) : Nat) : Int)) o.n.p)) := by
  obtain ⟨kd, ra, rb, rw', ch, n⟩ := o
  obtain ⟨⟨k1, k2⟩, ⟨a1, a2⟩, ⟨b1, b2⟩, w1, hn, hi⟩ := ho
  simp only at hk k1 k2 a1 a2 b1 b2 w1 hn hi
  simp only [AOp.v]
  have hid : s.id ra = ((pickN ra (s.sl.length + 2) : Nat) : Int) := rfl
  obtain ⟨w0, hw0⟩ : ∃ w0, w0 = W.alloc (.cells #[.int .i64 kd, .int .i64 ra, .int .i64 rb, .int .u64 (rw' : Nat), .bool ch, .int .i64 n.lv, n.hi.v, .int .i64 n.ri, n.ks.v, n.vs.v, n.cs.v] 39) := ⟨_, rfl⟩
  have b0 : Below W.heap.size W w0 := by rw [hw0]; exact (Below.refl _ _).alloc (Nat.le_refl _) _
  have z0 : w0.heap.size = W.heap.size + 1 := by rw [hw0]; simp
  have g0 : w0.heap[W.heap.size]? = some (.cells #[.int .i64 kd, .int .i64 ra, .int .i64 rb, .int .u64 (rw' : Nat), .bool ch, .int .i64 n.lv, n.hi.v, .int .i64 n.ri, n.ks.v, n.vs.v, n.cs.v] 39 (0, 0)) := by rw [hw0]; exact heap_alloc_new W _
  obtain ⟨K', hK'⟩ : ∃ K' : Nat → Prop, K' = fun k => K k ∨ k = W.heap.size := ⟨_, rfl⟩
  have hA0 : AW K' w0 P AX AY s s := h.more b0 (fun k hk => by rw [hK'] at hk; rcases hk with hk | hk; exact .inl hk; exact .inr (by omega)) (by rw [hK']; exact .inl h.kp)
  have hi0 : n.In K' := hi.mono (fun k hk => by rw [hK']; exact .inl hk)
  have kb : K' W.heap.size := by rw [hK']; exact .inr rfl
  have kk : ∀ k, K k → K' k := fun k hk => by rw [hK']; exact .inl hk
  have HEND : Hid (∀ w' u, AW K' w' P AX AY u u → Upd (fun k => ¬ K' k) w0 w' → AwPost K W P AX AY u (.returned (.bool true)) w') := fun w' u h1 h2 => ⟨rfl, h1.less kk h.kp, (kept_below b0).trans (kept_less h2 kk)⟩
  have HCE : Hid (∀ w', Upd (fun k => ¬ K' k) w0 w' → w'.heap[W.heap.size]? = some (.cells #[.int .i64 kd, .int .i64 ra, .int .i64 rb, .int .u64 (rw' : Nat), .bool ch, .int .i64 n.lv, n.hi.v, .int .i64 n.ri, n.ks.v, n.vs.v, n.cs.v] 39 (0, 0))) := fun w' hu => kept_heap hu g0 kb
  have HOK : Hid (∀ w', Upd (fun k => ¬ K' k) w0 w' → n.Ok w') := fun w' hu => (hn.below b0).kept hi0 hu
  have HIN := hide hi0
  have HU0 : Hid (Upd (fun k => ¬ K' k) w0 w0) := Upd.refl _ _
  have HID := hide (wid_any hA0 ra a1 a2)
  have HIDB := hide (wid_any hA0 rb b1 b2)
  have HPK := hide (pick_any kd 9 w0 (by decide) (by decide) k1 k2)
  rw [hk, show (((7 : Nat)) : Int) = 7 from rfl, show (((9 : Nat)) : Int) = 9 from rfl] at HPK
  have HLEN := hide hA0.len
  obtain ⟨c0, c1⟩ := hA0.cells
  rw [← hid] at HID
  have HA0 := hide hA0
  have HW := hide hw0
  clear h hn hi hK' hA0 hi0 kb kk b0 hw0 z0 k1 k2 hk hid
  have hll := HLEN.out.1
  have UY : Hid (∀ w', AW K' w' P AX AY s s → Calls Try.prog 60 #[.pointer (some ⟨AY, 0, none⟩)] w' fun e w'' => e = .returned (.int .i64 (s.sl.length : Nat)) ∧ w'' = w') := fun w' hw => aw_usedY hw
  have PK : Hid (∀ w', Calls Try.prog 46 #[.int .i64 ra, .int .i64 ((s.sl.length : Int) + 1)] w' fun e w'' => e = .returned (.int .i64 (pickN ra (s.sl.length + 1) : Nat)) ∧ w'' = w') := fun w' => pick_any ra (s.sl.length + 1) w' (by omega) (by omega) a1 a2
  have hpl := pickN_lt ra (s.sl.length + 1) (by omega)
  have LAY : Hid (∀ w', AW K' w' P AX AY s s → Upd (fun k => ¬ K' k) w0 w' → Calls Try.prog 59 #[.pointer (some ⟨P, 0, none⟩), .int .i64 (1 + ((pickN ra (s.sl.length + 1) : Nat) : Int)), n.v] w' (AwPost K' w' P AX AY (s.layS (1 + ((pickN ra (s.sl.length + 1) : Nat) : Int)) n.p))) := fun w' hw hu => wlay_any hw _ n (HOK.out w' hu) HIN.out
  obtain ⟨lv, ⟨ha, hc, hs⟩, ri, ⟨ka, kc, KL⟩, ⟨va, vc, V⟩, ⟨ca, cc, C⟩⟩ := n
  simp only [Nd.v, Tx.v, TL.v, IL.v] at *
  generalize hs.length = lh at *
  generalize KL.length = lk at *
  generalize V.length = lw at *
  generalize C.length = lc at *
  generalize s.layS (1 + ((pickN ra (s.sl.length + 1) : Nat) : Int)) (Nd.p ⟨lv, ⟨ha, hc, hs⟩, ri, ⟨ka, kc, KL⟩, ⟨va, vc, V⟩, ⟨ca, cc, C⟩⟩) = ls at *
  generalize pickN ra (s.sl.length + 1) = pl at *
  generalize s.sl.length = ll at *
  have j1 : IntKind.i64.wrap ((ll : Int) + 1) = (ll : Int) + 1 := by rw [IntKind.wrap_i64]; omega
  have j2 : IntKind.i64.wrap (1 + (pl : Int)) = 1 + (pl : Int) := by rw [IntKind.wrap_i64]; omega
  have y0 : w0.cell? ⟨W.heap.size, 0, none⟩ = some (.int .i64 kd) := row_cell g0 0 rfl
  have y1 : w0.cell? ⟨W.heap.size, 1, none⟩ = some (.int .i64 ra) := row_cell g0 1 rfl
  have y2 : w0.cell? ⟨W.heap.size, 2, none⟩ = some (.int .i64 rb) := row_cell g0 2 rfl
  have y3 : w0.cell? ⟨W.heap.size, 3, none⟩ = some (.int .u64 (rw' : Nat)) := row_cell g0 3 rfl
  have y4 : w0.cell? ⟨W.heap.size, 4, none⟩ = some (.bool ch) := row_cell g0 4 rfl
  have y5 : w0.cell? ⟨W.heap.size, 5, none⟩ = some (.int .i64 lv) := row_cell g0 5 rfl
  have y6 : w0.cell? ⟨W.heap.size, 6, none⟩ = some (.slice ha lh hc) := row_cell g0 6 rfl
  have y7 : w0.cell? ⟨W.heap.size, 7, none⟩ = some (.int .i64 ri) := row_cell g0 7 rfl
  have y8 : w0.cell? ⟨W.heap.size, 8, none⟩ = some (.slice ka lk kc) := row_cell g0 8 rfl
  have y9 : w0.cell? ⟨W.heap.size, 9, none⟩ = some (.slice va lw vc) := row_cell g0 9 rfl
  have y10 : w0.cell? ⟨W.heap.size, 10, none⟩ = some (.slice ca lc cc) := row_cell g0 10 rfl
  clear g0
  generalize s.id ra = id at *
  go_enter Try.func13, Try.ntmps13
  go_wp2_with fail
  rw [← HW.out]
  refine keep HID.out ?_
  go_wp2_with fail
  refine keep HPK.out ?_
  go_wp2_with fail
  go_region_held3 (fun W' => W'.cell? ⟨P, 1, none⟩ = some (.pointer (some ⟨AY, 0, none⟩)) ∧ W'.cell? ⟨W.heap.size, 1, none⟩ = some (.int .i64 ra) ∧ W'.cell? ⟨W.heap.size, 5, none⟩ = some (.int .i64 lv) ∧ W'.cell? ⟨W.heap.size, 6, none⟩ = some (.slice ha lh hc) ∧ W'.cell? ⟨W.heap.size, 7, none⟩ = some (.int .i64 ri) ∧ W'.cell? ⟨W.heap.size, 8, none⟩ = some (.slice ka lk kc) ∧ W'.cell? ⟨W.heap.size, 9, none⟩ = some (.slice va lw vc) ∧ W'.cell? ⟨W.heap.size, 10, none⟩ = some (.slice ca lc cc)) (go_keep) (first
    | (go_at_call 59; refine (LAY.out w0.drew (HA0.out.below (below_drew (Below.refl _ _))) (HU0.out.drew)).mono ?_; rintro e w2 ⟨rfl, hA, hU⟩; have A2 := hide hA; have U2 : Hid (Upd (fun k => ¬ K' k) w0 w2) := ((Upd.refl _ w0).drew).trans hU; obtain ⟨f0, f1⟩ := hA.cells; have t1 := row_cell (HCE.out w2 U2.out) 1 rfl; have t5 := row_cell (HCE.out w2 U2.out) 5 rfl; have t6 := row_cell (HCE.out w2 U2.out) 6 rfl; have t7 := row_cell (HCE.out w2 U2.out) 7 rfl; have t8 := row_cell (HCE.out w2 U2.out) 8 rfl; have t9 := row_cell (HCE.out w2 U2.out) 9 rfl; have t10 := row_cell (HCE.out w2 U2.out) 10 rfl; clear hA hU)
    | (go_at_call 46; refine keep (PK.out w0.drew) ?_)
    | (go_at_call 60; refine keep (UY.out w0.drew (HA0.out.below (below_drew (Below.refl _ _)))) ?_)
    | fail)
  have HF := hide (HEND.out w2 _ A2.out U2.out)
  clear HEND f0 f1
  go_wp2_with fail
  go_ret
  exact HF.out
end

end Go.Proofs.Ytpfmfobnanhcdaa

namespace Go.Proofs.Ytpfmfobnanhcdaa
open Go.RowKit
set_option maxRecDepth 100000
theorem raw_any {K : Nat → Prop} {W : World} {P AX AY : Nat} {s : AS} (h : AW K W P AX AY s s) (o : AOp) (ho : o.Ok K W) : Calls Try.prog 13 #[.pointer (some ⟨P, 0, none⟩), o.v] W (AwPost K W P AX AY (s.raw o)) := by
  have hlt := pickN_lt o.kind 9 (by decide)
  unfold AS.raw
  by_cases h0 : pickN o.kind 9 = 0
  · rw [if_pos h0]; exact raw0 h o ho h0
  rw [if_neg h0]
  by_cases h1 : pickN o.kind 9 = 1
  · rw [if_pos h1]; exact raw1 h o ho h1
  rw [if_neg h1]
  by_cases h2 : pickN o.kind 9 = 2
  · rw [if_pos h2]; exact raw2 h o ho h2
  rw [if_neg h2]
  by_cases h3 : pickN o.kind 9 = 3
  · rw [if_pos h3]; exact raw3 h o ho h3
  rw [if_neg h3]
  by_cases h4 : pickN o.kind 9 = 4
  · rw [if_pos h4]; exact raw4 h o ho h4
  rw [if_neg h4]
  by_cases h5 : pickN o.kind 9 = 5
  · rw [if_pos h5]; exact raw5 h o ho h5
  rw [if_neg h5]
  by_cases h6 : pickN o.kind 9 = 6
  · rw [if_pos h6]; exact raw6 h o ho h6
  rw [if_neg h6]
  by_cases h7 : pickN o.kind 9 = 7
  · rw [if_pos h7]; exact raw7 h o ho h7
  rw [if_neg h7]
  exact raw8 h o ho (by omega)

/-- A script in memory. -/
structure Ops (K : Nat → Prop) (W : World) (a : Option Addr) (L : List AOp) : Prop where
  c : ∀ i (h : i < L.length), ∃ b o, a = some ⟨b, o, none⟩ ∧ K b ∧ ∀ j (v : Value), (match L[i].v with | .agg cs => cs | _ => #[])[j]? = some v → W.cell? ⟨b, o + i * 11 + j, none⟩ = some v
  ok : ∀ x ∈ L, x.Ok K W
theorem Ops.kept {K : Nat → Prop} {W W' : World} {a : Option Addr} {L : List AOp} (h : Ops K W a L) (hu : Upd (fun k => ¬ K k) W W') : Ops K W' a L := by
  refine ⟨fun i hi => ?_, fun x hx => (h.ok x hx).kept hu⟩
  obtain ⟨b, o, ha, hk, hc⟩ := h.c i hi
  exact ⟨b, o, ha, hk, fun j v hv => kept_cell hu (hc j v hv) hk⟩
theorem Ops.mono {K K' : Nat → Prop} {W : World} {a : Option Addr} {L : List AOp} (h : Ops K W a L) (hk : ∀ k, K k → K' k) : Ops K' W a L := by
  refine ⟨fun i hi => ?_, fun x hx => ?_⟩
  · obtain ⟨b, o, ha, hb, hc⟩ := h.c i hi
    exact ⟨b, o, ha, hk b hb, hc⟩
  · have := h.ok x hx
    exact ⟨this.k1, this.a1, this.b1, this.w1, this.n, this.i.mono hk⟩
/-- What a script leaves. -/
def AS.run (s : AS) (L : List AOp) : AS := L.foldl AS.raw s
theorem AS.run_take (s : AS) (L : List AOp) (i : Nat) (h : i < L.length) : s.run (L.take (i + 1)) = (s.run (L.take i)).raw L[i] := by
  unfold AS.run
  rw [take_next h, List.foldl_append]
  rfl

end Go.Proofs.Ytpfmfobnanhcdaa

namespace Go.Proofs.Ytpfmfobnanhcdaa
open Go.RowKit
set_option maxRecDepth 100000
theorem AS.setw_len (s : AS) (id : Int) (x : Nat) : (s.setw id x).sl.length = s.sl.length := by simp [AS.setw]
theorem AS.setw_inn {s : AS} {id id' : Int} {x : Nat} (h : s.inn id) : (s.setw id' x).inn id := by unfold AS.inn at *; rw [AS.setw_len]; exact h
theorem AS.setw_w {s : AS} {id : Int} {x : Nat} (h : s.inn id) : (s.setw id x).w id = x := by
  obtain ⟨i, hi, _, e⟩ := AS.idx h
  unfold AS.w AS.setw
  simp only [e]
  rw [List.getD_eq_getElem?_getD, List.getElem?_set_self hi]
  rfl
/-- A latch that is held, and what it is given back as. -/
theorem held_lock {s : AS} {id : Int} (ho : s.w id % 2 = 1) (x : Nat) : s.lockB id x = false ∧ s.lockS id x = s := by
  have hn : ¬ (s.inn id ∧ s.w id = x ∧ x % 2 = 0) := fun ⟨_, h1, h2⟩ => by omega
  exact ⟨decide_eq_false hn, if_neg hn⟩
theorem took_held {s : AS} {id : Int} (h : s.inn id) : (s.lockS id (s.w id)).inn id ∧ (s.lockS id (s.w id)).w id = (if s.w id % 2 = 0 then s.w id + 1 else s.w id) ∧ s.lockB id (s.w id) = decide (s.w id % 2 = 0) := by
  by_cases hx : s.w id % 2 = 0
  · rw [show s.lockS id (s.w id) = s.setw id (s.w id + 1) from if_pos ⟨h, rfl, hx⟩, if_pos hx]
    exact ⟨AS.setw_inn h, AS.setw_w h, by unfold AS.lockB; rw [decide_eq_true ⟨h, rfl, hx⟩, decide_eq_true hx]⟩
  · rw [show s.lockS id (s.w id) = s from if_neg (fun e => hx e.2.2), if_neg hx]
    exact ⟨h, rfl, by unfold AS.lockB; rw [decide_eq_false (fun e => hx e.2.2), decide_eq_false hx]⟩
theorem unl_held {s : AS} {id : Int} (h : s.inn id) (ho : s.w id % 2 = 1) (ch : Bool) : s.unlE id = 0 ∧ s.unlS id ch = s.setw id (freeW (s.w id) ch) := by
  have hE : s.unlE id = 0 := by unfold AS.unlE; rw [if_pos h, if_neg (by omega)]
  exact ⟨hE, if_pos hE⟩
theorem wordW_in {s : AS} {id : Int} (h : s.inn id) : s.wordW id = s.w id ∧ s.wordE id = 0 := ⟨if_pos h, if_pos h⟩
theorem freeW_even {y : Nat} (ho : y % 2 = 1) (ch : Bool) : freeW y ch % 2 = 0 := by
  unfold freeW
  cases ch
  · simp; omega
  · simp only [if_true]; omega
/-- Behind a latch that was taken at an even word x. -/
theorem free_back (x : Nat) (ch : Bool) : (decide (freeW (x + 1) ch = x)) = !ch := by
  unfold freeW
  cases ch
  · simp
  · simp only [if_true, Bool.not_true, decide_eq_false_iff_not]; omega
/-- The number that a raw one speaks of among the taken. -/
def AS.nth (s : AS) (c : Int) : Int := 1 + ((pickN c s.sl.length : Nat) : Int)
theorem AS.nth_in {s : AS} (c : Int) (h : 1 ≤ s.sl.length) : s.inn (s.nth c) := by
  have := pickN_lt c s.sl.length (by omega)
  unfold AS.inn AS.nth
  omega

end Go.Proofs.Ytpfmfobnanhcdaa

namespace Go.Proofs.Ytpfmfobnanhcdaa
open Go.RowKit
set_option maxRecDepth 100000
theorem AS.idx_ne {s : AS} {j k : Int} (hj : s.inn j) (hk : s.inn k) (h : j ≠ k) : (j - 1).toNat ≠ (k - 1).toNat := by unfold AS.inn at *; omega
theorem AS.n_setw {s : AS} {k : Int} (hk : s.inn k) (x : Nat) (j : Int) : (s.setw k x).n j = s.n j := by
  obtain ⟨i, hi, _, e⟩ := AS.idx hk
  unfold AS.n AS.setw
  simp only [e]
  by_cases h : (j - 1).toNat = i
  · rw [h, List.getD_eq_getElem?_getD, List.getElem?_set_self hi]
    unfold AS.n
    rw [e]; rfl
  · rw [List.getD_eq_getElem?_getD, List.getElem?_set_ne (fun e => h e.symm), ← List.getD_eq_getElem?_getD]
theorem AS.n_setn {s : AS} {k : Int} (hk : s.inn k) (p : NP) {j : Int} (hj : s.inn j) : (s.setn k p).n j = if j = k then p else s.n j := by
  obtain ⟨i, hi, _, e⟩ := AS.idx hk
  unfold AS.n AS.setn
  simp only [e]
  by_cases h : j = k
  · rw [if_pos h, h, e, List.getD_eq_getElem?_getD, List.getElem?_set_self hi]
    rfl
  · have hne := AS.idx_ne hj hk h
    rw [e] at hne
    rw [if_neg h, List.getD_eq_getElem?_getD, List.getElem?_set_ne (fun e => hne e.symm), ← List.getD_eq_getElem?_getD]
theorem AS.w_setn {s : AS} {k : Int} (hk : s.inn k) (p : NP) (j : Int) : (s.setn k p).w j = s.w j := by
  obtain ⟨i, hi, _, e⟩ := AS.idx hk
  unfold AS.w AS.setn
  simp only [e]
  by_cases h : (j - 1).toNat = i
  · rw [h, List.getD_eq_getElem?_getD, List.getElem?_set_self hi]
    unfold AS.w
    rw [e]; rfl
  · rw [List.getD_eq_getElem?_getD, List.getElem?_set_ne (fun e => h e.symm), ← List.getD_eq_getElem?_getD]
theorem AS.setn_len (s : AS) (k : Int) (p : NP) : (s.setn k p).sl.length = s.sl.length := by simp [AS.setn]
theorem AS.inn_of_len {s t : AS} (h : t.sl.length = s.sl.length) (j : Int) : t.inn j ↔ s.inn j := by unfold AS.inn; rw [h]
/-- A head and a body are set under a latch that is held. -/
structure SetBoth (s s2 s3 s4 : AS) (k : Int) (p : NP) : Prop where
  e2 : s2.unlE k = 0
  e3 : s3.unlE k = 0
  len : s4.sl.length = s.sl.length
  root : s4.root = s.root
  rd : ∀ j, s.inn j → s4.rd j = if j = k then p else s.n j
theorem set_both {s : AS} {k : Int} (hk : s.inn k) (p : NP) : SetBoth s (s.lockS k (s.w k)) ((s.lockS k (s.w k)).hedS k p.lv p.hi p.ri) (((s.lockS k (s.w k)).hedS k p.lv p.hi p.ri).bodS k p.ks p.vs p.cs) k p := by
  obtain ⟨t1, t2, _⟩ := took_held hk
  have hodd : (s.lockS k (s.w k)).w k % 2 = 1 := by rw [t2]; split <;> omega
  have hl2 : (s.lockS k (s.w k)).sl.length = s.sl.length := by unfold AS.lockS; split; exact AS.setw_len _ _ _; rfl
  have hr2 : (s.lockS k (s.w k)).root = s.root := by unfold AS.lockS; split <;> rfl
  have hn2 : ∀ j, (s.lockS k (s.w k)).n j = s.n j := fun j => by unfold AS.lockS; split; exact AS.n_setw hk _ j; rfl
  generalize s.lockS k (s.w k) = s2 at *
  have e2 : s2.unlE k = 0 := by unfold AS.unlE; rw [if_pos t1, if_neg (by omega)]
  have h3 : s2.hedS k p.lv p.hi p.ri = s2.setn k ((s2.n k).setH p.lv p.hi p.ri) := if_pos e2
  rw [h3]
  have t3 : (s2.setn k ((s2.n k).setH p.lv p.hi p.ri)).inn k := (AS.inn_of_len (AS.setn_len _ _ _) k).2 t1
  have e3 : (s2.setn k ((s2.n k).setH p.lv p.hi p.ri)).unlE k = 0 := by unfold AS.unlE; rw [if_pos t3, if_neg (by rw [AS.w_setn t1]; omega)]
  have h4 : (s2.setn k ((s2.n k).setH p.lv p.hi p.ri)).bodS k p.ks p.vs p.cs = (s2.setn k ((s2.n k).setH p.lv p.hi p.ri)).setn k (((s2.setn k ((s2.n k).setH p.lv p.hi p.ri)).n k).setB p.ks p.vs p.cs) := if_pos e3
  rw [h4]
  refine ⟨e2, e3, by rw [AS.setn_len, AS.setn_len]; exact hl2, hr2, fun j hj => ?_⟩
  have hj2 : s2.inn j := (AS.inn_of_len hl2 j).2 hj
  have hj3 : (s2.setn k ((s2.n k).setH p.lv p.hi p.ri)).inn j := (AS.inn_of_len (AS.setn_len _ _ _) j).2 hj2
  unfold AS.rd
  rw [if_pos ((AS.inn_of_len (AS.setn_len _ _ _) j).2 hj3), AS.n_setn t3 _ hj3]
  by_cases h : j = k
  · rw [if_pos h, if_pos h, AS.n_setn t1 _ t1, if_pos rfl]
    rfl
  · rw [if_neg h, if_neg h, AS.n_setn t1 _ hj2, if_neg h, hn2]
/-- A node's six cells. -/
def Six' (W : World) (b o : Nat) (n : Nd) : Prop := W.cell? ⟨b, o, none⟩ = some (.int .i64 n.lv) ∧ W.cell? ⟨b, o + 1, none⟩ = some n.hi.v ∧ W.cell? ⟨b, o + 2, none⟩ = some (.int .i64 n.ri) ∧ W.cell? ⟨b, o + 3, none⟩ = some n.ks.v ∧ W.cell? ⟨b, o + 4, none⟩ = some n.vs.v ∧ W.cell? ⟨b, o + 5, none⟩ = some n.cs.v
/-- The document's slots, as they lie. -/
theorem AW.slots {K : Nat → Prop} {W : World} {P AX AY : Nat} {s t : AS} (h : AW K W P AX AY s t) : ∃ g c, W.cell? ⟨AY, 1, none⟩ = some (.slice (some ⟨g, 0, none⟩) t.sl.length c) ∧ ∀ i : Nat, i < t.sl.length → ∃ n : Nd, n.Ok W ∧ n.p = t.n ((i : Int) + 1) ∧ Six' W g (i * 7 + 1) n := by
  obtain ⟨F, g, c, M, D, L, h1, h2, _⟩ := h.rx
  refine ⟨g, c, by rw [← ndsR_lenS h2]; exact h1.cells.2.1, fun i hi => ?_⟩
  have hi' : i < L.length := by rw [ndsR_lenS h2]; exact hi
  exact ⟨L[i].n, (h1.sl L[i] (List.getElem_mem hi')).n, ((ndsR_at h2 hi' rfl).2).symm, h1.ncells i hi'⟩

end Go.Proofs.Ytpfmfobnanhcdaa

namespace Go.Proofs.Ytpfmfobnanhcdaa
open Go.RowKit
set_option maxRecDepth 100000

def AnyB (w : World) (e : Ending) (w' : World) : Prop := ∃ bb : Bool, e = .returned (.bool bb) ∧ Below w.heap.size w w'
def AnyD (w : World) (e : Ending) (w' : World) : Prop := ∃ bb : Bool, e = .returned (.bool bb) ∧ ∃ m, w' = w.drewN m
set_option maxRecDepth 100000 in
set_option maxHeartbeats 1600000 in
theorem sameTexts_g (a b : Option Addr) (l l2 c d : Nat) (K L : List Tx) (w : World) (hK : (⟨a, c, K⟩ : TL).Ok w) (hL : (⟨b, d, L⟩ : TL).Ok w) (hlk : K.length = l) (hll : L.length = l2) (hz : l * 24 ≤ 140737488355000) (hz2 : l2 * 24 ≤ 140737488355000) :
    Calls Try.prog 89 #[.slice a l c, .slice b l2 d] w (AnyD w) := by
  have HK := hide hK
  have HL := hide hL
  replace hlk := hide hlk
  replace hll := hide hll
  clear hK hL
  by_cases hq : l = l2
  · subst hq
    go_enter Try.func89, Try.ntmps89
    go_wp2
    go_loopw [5] (fun q wr => ∃ i m : Nat, i ≤ l ∧ q = .int .i64 (i : Int) ∧ wr = w.drewN m) (fun q _ => l - (intOf q).toNat)
    case atStart => exact ⟨0, 0, Nat.zero_le _, rfl, rfl⟩
    case round =>
      obtain ⟨i, m, hi, rfl, rfl⟩ := hrel
      by_cases hlt : i < l
      · have j1 : (i : Int) < (l : Int) := by omega
        have h1 : i < K.length := by rw [hlk.out]; exact hlt
        have h2 : i < L.length := by rw [hll.out]; exact hlt
        obtain ⟨b1, o1, ha1, s1⟩ := HK.out.r i h1
        obtain ⟨b2, o2, ha2, s2⟩ := HL.out.r i h2
        simp only at ha1 ha2
        subst ha1
        subst ha2
        have O1 := hide (HK.out.ok K[i] (List.getElem_mem h1))
        have O2 := hide (HL.out.ok L[i] (List.getElem_mem h2))
        obtain ⟨x, hx⟩ : ∃ x, K[i] = x := ⟨_, rfl⟩
        obtain ⟨y, hy⟩ : ∃ y, L[i] = y := ⟨_, rfl⟩
        simp only [hx, hy] at s1 s2 O1 O2
        clear hx hy
        unfold Tx.v at s1 s2
        have k1 : ∀ q, (convert 28 9 (.slice x.a x.s.length x.c)).run Try.prog (w.drewN q) = .ok (.string (strOfNums x.s)) (w.drewN q) := fun q => nconv_row x.c rfl O1.out.r
        have k2 : ∀ q, (convert 28 9 (.slice y.a y.s.length y.c)).run Try.prog (w.drewN q) = .ok (.string (strOfNums y.s)) (w.drewN q) := fun q => nconv_row y.c rfl O2.out.r
        generalize strOfNums x.s = st at *
        generalize strOfNums y.s = st2 at *
        generalize x.a = xa at *
        generalize x.c = xc at *
        generalize y.a = ya at *
        generalize y.c = yc at *
        generalize x.s.length = xl at *
        generalize y.s.length = yl at *
        go_wp2
        go_quiet (fail)
        go_wp2
        · go_ret
          exact ⟨_, rfl, _, World.drewN_drewN _ _ _⟩
        · go_roundw
          case rel => exact ⟨i + 1, _, by omega, by go_num, rfl⟩
          case measure => simp [intOf]; omega
      · have j1 : ¬ (i : Int) < (l : Int) := by omega
        go_wp2
        go_ret
        exact ⟨_, rfl, _, rfl⟩
  · have hq2 : ¬ (l : Int) = (l2 : Int) := by omega
    go_enter Try.func89, Try.ntmps89
    go_wp2
    go_ret
    exact ⟨_, rfl, 0, rfl⟩

set_option maxRecDepth 100000 in
set_option maxHeartbeats 1600000 in
theorem sameHead_g (lv ri lv2 ri2 : Int) (a b : Option Addr) (l l2 c d : Nat) (s s2 : List Int) (w : World) (hl : s.length = l) (hl2 : s2.length = l2) (ha : Row w .u8 a s) (hb : Row w .u8 b s2) :
    Calls Try.prog 80 #[.agg #[.int .i64 lv, .slice a l c, .int .i64 ri], .agg #[.int .i64 lv2, .slice b l2 d, .int .i64 ri2]] w (AnyB w) := by
  have HK : Hid (∀ W, Below w.heap.size w W → (convert 28 9 (.slice a l c)).run Try.prog W = .ok (.string (strOfNums s)) W) := fun W h => nconv_row c hl (ha.below2 h)
  have HL : Hid (∀ W, Below w.heap.size w W → (convert 28 9 (.slice b l2 d)).run Try.prog W = .ok (.string (strOfNums s2)) W) := fun W h => nconv_row d hl2 (hb.below2 h)
  clear ha hb hl hl2
  have k1 := HK.out _ (((Below.refl w.heap.size w).alloc (Nat.le_refl _) (.cells #[.int .i64 lv, .slice a l c, .int .i64 ri] 31)).alloc (by simp) (.cells #[.int .i64 lv2, .slice b l2 d, .int .i64 ri2] 31))
  have k2 := HL.out _ (((Below.refl w.heap.size w).alloc (Nat.le_refl _) (.cells #[.int .i64 lv, .slice a l c, .int .i64 ri] 31)).alloc (by simp) (.cells #[.int .i64 lv2, .slice b l2 d, .int .i64 ri2] 31))
  generalize strOfNums s = st at *
  generalize strOfNums s2 = st2 at *
  by_cases h1 : lv = lv2
  · subst h1
    go_enter Try.func80, Try.ntmps80
    go_wp2
    all_goals
      go_ret
      exact ⟨_, rfl, ((Below.refl _ _).alloc (Nat.le_refl _) _).alloc (by simp) _⟩
  · go_enter Try.func80, Try.ntmps80
    go_wp2
    go_ret
    exact ⟨_, rfl, ((Below.refl _ _).alloc (Nat.le_refl _) _).alloc (by simp) _⟩

set_option maxRecDepth 100000 in
set_option maxHeartbeats 1600000 in
theorem sameBody_g (n m : Nd) (w : World) (hn : n.Ok w) (hm : m.Ok w) :
    Calls Try.prog 33 #[.agg #[n.ks.v, n.vs.v, n.cs.v], .agg #[m.ks.v, m.vs.v, m.cs.v]] w (AnyB w) := by
  obtain ⟨lv, hi, ri, ⟨ka, kc, K⟩, ⟨va, vc, V⟩, ⟨ca, cc, C⟩⟩ := n
  obtain ⟨lv', hi', ri', ⟨ka', kc', K'⟩, ⟨va', vc', V'⟩, ⟨ca', cc', C'⟩⟩ := m
  have hkz := hn.kz
  have hvz := hn.vz
  have hcz := hn.cz
  have hkz' := hm.kz
  have hvz' := hm.vz
  have hcz' := hm.cz
  simp only at hkz hvz hcz hkz' hvz' hcz'
  have HKK : Hid (∀ W, Below w.heap.size w W → Calls Try.prog 89 #[.slice ka K.length kc, .slice ka' K'.length kc'] W (AnyD W)) := fun W h => sameTexts_g ka ka' K.length K'.length kc kc' K K' W (hn.k.below h) (hm.k.below h) rfl rfl (by omega) (by omega)
  have HVV : Hid (∀ W, Below w.heap.size w W → Calls Try.prog 89 #[.slice va V.length vc, .slice va' V'.length vc'] W (AnyD W)) := fun W h => sameTexts_g va va' V.length V'.length vc vc' V V' W (hn.v.below h) (hm.v.below h) rfl rfl (by omega) (by omega)
  have HC1 : Hid (∀ W, Below w.heap.size w W → Row W .i64 ca C) := fun W h => (hn.c.below h).r
  have HC2 : Hid (∀ W, Below w.heap.size w W → Row W .i64 ca' C') := fun W h => (hm.c.below h).r
  simp only [TL.v, IL.v]
  clear hn hm hkz hvz hkz' hvz'
  generalize K.length = lk at *
  generalize V.length = lw at *
  generalize K'.length = lk' at *
  generalize V'.length = lw' at *
  obtain ⟨lc, hlc⟩ : ∃ lc, C.length = lc := ⟨_, rfl⟩
  obtain ⟨lc', hlc'⟩ : ∃ lc, C'.length = lc := ⟨_, rfl⟩
  rw [hlc] at hcz ⊢
  rw [hlc'] at hcz' ⊢
  replace hlc := hide hlc
  replace hlc' := hide hlc'
  obtain ⟨w0, hw0⟩ : ∃ w0, w0 = w.alloc (.cells #[.slice ka lk kc, .slice va lw vc, .slice ca lc cc] 35) := ⟨_, rfl⟩
  obtain ⟨w1, hw1⟩ : ∃ w1, w1 = w0.alloc (.cells #[.slice ka' lk' kc', .slice va' lw' vc', .slice ca' lc' cc'] 35) := ⟨_, rfl⟩
  have z0 : w0.heap.size = w.heap.size + 1 := by rw [hw0]; simp
  have b0 : Below w.heap.size w w0 := by rw [hw0]; exact (Below.refl _ _).alloc (Nat.le_refl _) _
  have b1 : Below w0.heap.size w0 w1 := by rw [hw1]; exact (Below.refl _ _).alloc (Nat.le_refl _) _
  have B1 : Hid (Below w.heap.size w w1) := b0.trans (b1.mono b0.size)
  have g0 : w0.heap[w.heap.size]? = some (.cells #[.slice ka lk kc, .slice va lw vc, .slice ca lc cc] 35 (0, 0)) := by rw [hw0]; exact heap_alloc_new w _
  have g1 : w1.heap[w.heap.size + 1]? = some (.cells #[.slice ka' lk' kc', .slice va' lw' vc', .slice ca' lc' cc'] 35 (0, 0)) := by rw [← z0, hw1]; exact heap_alloc_new w0 _
  have A1 := (b1.block _ (by omega)).trans g0
  obtain ⟨c0, c1, c2⟩ := three_new A1
  obtain ⟨d0, d1, d2⟩ := three_new g1
  have HW : Hid ((w.alloc (.cells #[.slice ka lk kc, .slice va lw vc, .slice ca lc cc] 35)).alloc (.cells #[.slice ka' lk' kc', .slice va' lw' vc', .slice ca' lc' cc'] 35) = w1) := by show _ = _; rw [hw1, hw0]
  clear hw0 hw1 z0 b0 b1 g0 g1 A1
  go_enter Try.func33, Try.ntmps33
  go_wp2_with fail
  rw [HW.out]
  refine (HKK.out w1 B1.out).mono ?_
  rintro e w2 ⟨bk, rfl, q, rfl⟩
  clear HW HKK
  go_wp2_with fail
  refine (HVV.out (w1.drewN q) (below_drewN B1.out q)).mono ?_
  rintro e w2 ⟨bv, rfl, q2, rfl⟩
  clear HVV
  cases bk with
  | false =>
    go_wp2_with fail
    go_ret
    exact ⟨_, rfl, by first | exact below_drewN B1.out _ | exact below_drewN (below_drewN B1.out _) _⟩
  | true =>
    cases bv with
    | false =>
      go_wp2_with fail
      go_ret
      exact ⟨_, rfl, by first | exact below_drewN B1.out _ | exact below_drewN (below_drewN B1.out _) _⟩
    | true =>
      by_cases hq : lc = lc'
      · subst hq
        go_wp2_with fail
        go_loopw [7] (fun x wr => ∃ i m : Nat, i ≤ lc ∧ x = .int .i64 (i : Int) ∧ wr = w1.drewN m) (fun x _ => lc - (intOf x).toNat)
        case atStart => exact ⟨0, q + q2, Nat.zero_le _, rfl, rfl⟩
        case round =>
          obtain ⟨i, m, hi, rfl, rfl⟩ := hrel
          by_cases hlt : i < lc
          · have j1 : (i : Int) < (lc : Int) := by omega
            obtain ⟨p1, o1, ha1, s1⟩ := HC1.out w1 B1.out i (by rw [hlc.out]; exact hlt)
            obtain ⟨p2, o2, ha2, s2⟩ := HC2.out w1 B1.out i (by rw [hlc'.out]; exact hlt)
            subst ha1
            subst ha2
            generalize C.getD i 0 = x at *
            generalize C'.getD i 0 = y at *
            by_cases hxy : x = y
            · subst hxy
              go_wp2
              go_quiet (fail)
              go_wp2
              go_roundw
              case rel => exact ⟨i + 1, _, by omega, by go_num, rfl⟩
              case measure => simp [intOf]; omega
            · go_wp2
              go_quiet (fail)
              go_wp2
              go_ret
              exact ⟨_, rfl, by first | exact below_drewN B1.out _ | exact below_drewN (below_drewN B1.out _) _⟩
          · have j1 : ¬ (i : Int) < (lc : Int) := by omega
            go_wp2
            go_ret
            exact ⟨_, rfl, below_drewN B1.out _⟩
      · have hq2 : ¬ (lc : Int) = (lc' : Int) := by omega
        go_wp2_with fail
        go_ret
        exact ⟨_, rfl, by first | exact below_drewN B1.out _ | exact below_drewN (below_drewN B1.out _) _⟩
set_option maxRecDepth 100000 in
set_option maxHeartbeats 1600000 in
theorem sameNode_g (n m : Nd) (w : World) (hn : n.Ok w) (hm : m.Ok w) :
    Calls Try.prog 22 #[n.v, m.v] w (AnyB w) := by
  have HBD : Hid (∀ W, Below w.heap.size w W → Calls Try.prog 33 #[.agg #[n.ks.v, n.vs.v, n.cs.v], .agg #[m.ks.v, m.vs.v, m.cs.v]] W (AnyB W)) := fun W hb => sameBody_g n m W (hn.below hb) (hm.below hb)
  obtain ⟨lv, ⟨ha, hc, hs⟩, ri, ⟨ka, kc, K⟩, ⟨va, vc, V⟩, ⟨ca, cc, C⟩⟩ := n
  obtain ⟨lv', ⟨ha', hc', hs'⟩, ri', ⟨ka', kc', K'⟩, ⟨va', vc', V'⟩, ⟨ca', cc', C'⟩⟩ := m
  have HHD : Hid (∀ W, Below w.heap.size w W → Calls Try.prog 80 #[.agg #[.int .i64 lv, .slice ha hs.length hc, .int .i64 ri], .agg #[.int .i64 lv', .slice ha' hs'.length hc', .int .i64 ri']] W (AnyB W)) := fun W hb => sameHead_g lv ri lv' ri' ha ha' hs.length hs'.length hc hc' hs hs' W rfl rfl (hn.h.below hb).r (hm.h.below hb).r
  clear hn hm
  simp only [Nd.v, Tx.v, TL.v, IL.v] at *
  generalize hs.length = lh at *
  generalize K.length = lk at *
  generalize V.length = lw at *
  generalize C.length = lc at *
  generalize hs'.length = lh' at *
  generalize K'.length = lk' at *
  generalize V'.length = lw' at *
  generalize C'.length = lc' at *
  obtain ⟨w0, hw0⟩ : ∃ w0, w0 = w.alloc (.cells #[.int .i64 lv, .slice ha lh hc, .int .i64 ri, .slice ka lk kc, .slice va lw vc, .slice ca lc cc] 37) := ⟨_, rfl⟩
  obtain ⟨w1, hw1⟩ : ∃ w1, w1 = w0.alloc (.cells #[.int .i64 lv', .slice ha' lh' hc', .int .i64 ri', .slice ka' lk' kc', .slice va' lw' vc', .slice ca' lc' cc'] 37) := ⟨_, rfl⟩
  have z0 : w0.heap.size = w.heap.size + 1 := by rw [hw0]; simp
  have b0 : Below w.heap.size w w0 := by rw [hw0]; exact (Below.refl _ _).alloc (Nat.le_refl _) _
  have b1 : Below w0.heap.size w0 w1 := by rw [hw1]; exact (Below.refl _ _).alloc (Nat.le_refl _) _
  have B1 : Hid (Below w.heap.size w w1) := b0.trans (b1.mono b0.size)
  have g0 : w1.heap[w.heap.size]? = some (.cells #[.int .i64 lv, .slice ha lh hc, .int .i64 ri, .slice ka lk kc, .slice va lw vc, .slice ca lc cc] 37 (0, 0)) := (b1.block _ (by omega)).trans (by rw [hw0]; exact heap_alloc_new w _)
  have g1 : w1.heap[w.heap.size + 1]? = some (.cells #[.int .i64 lv', .slice ha' lh' hc', .int .i64 ri', .slice ka' lk' kc', .slice va' lw' vc', .slice ca' lc' cc'] 37 (0, 0)) := by rw [← z0, hw1]; exact heap_alloc_new w0 _
  have G0 := hide g0
  have G1 := hide g1
  have HW : Hid ((w.alloc (.cells #[.int .i64 lv, .slice ha lh hc, .int .i64 ri, .slice ka lk kc, .slice va lw vc, .slice ca lc cc] 37)).alloc (.cells #[.int .i64 lv', .slice ha' lh' hc', .int .i64 ri', .slice ka' lk' kc', .slice va' lw' vc', .slice ca' lc' cc'] 37) = w1) := by show _ = _; rw [hw1, hw0]
  clear hw0 hw1 z0 b0 b1 g0 g1
  go_enter Try.func22, Try.ntmps22
  go_wp2_with fail
  rw [HW.out]
  refine (HHD.out w1 B1.out).mono ?_
  rintro e w2 ⟨b1, rfl, hb2⟩
  have B2 := hide (B1.out.trans (hb2.mono B1.out.size))
  have E0 := (hb2.block _ (lt_of_block G0.out)).trans G0.out
  have E1 := (hb2.block _ (lt_of_block G1.out)).trans G1.out
  have s0 : w2.cell? ⟨w.heap.size, 3, none⟩ = some (.slice ka lk kc) := by rw [cell_of_row _ _ _ _ _ _ E0]; rfl
  have s1 : w2.cell? ⟨w.heap.size, 4, none⟩ = some (.slice va lw vc) := by rw [cell_of_row _ _ _ _ _ _ E0]; rfl
  have s2 : w2.cell? ⟨w.heap.size, 5, none⟩ = some (.slice ca lc cc) := by rw [cell_of_row _ _ _ _ _ _ E0]; rfl
  have s3 : w2.cell? ⟨w.heap.size + 1, 3, none⟩ = some (.slice ka' lk' kc') := by rw [cell_of_row _ _ _ _ _ _ E1]; rfl
  have s4 : w2.cell? ⟨w.heap.size + 1, 4, none⟩ = some (.slice va' lw' vc') := by rw [cell_of_row _ _ _ _ _ _ E1]; rfl
  have s5 : w2.cell? ⟨w.heap.size + 1, 5, none⟩ = some (.slice ca' lc' cc') := by rw [cell_of_row _ _ _ _ _ _ E1]; rfl
  clear hb2 E0 E1 HW HHD
  go_wp2_with fail
  refine (HBD.out w2 B2.out).mono ?_
  rintro e w3 ⟨b2, rfl, hb3⟩
  have B3 := hide (B2.out.trans (hb3.mono B2.out.size))
  clear hb3
  cases b1 with
  | false =>
    go_wp2_with fail
    go_ret
    exact ⟨_, rfl, B3.out⟩
  | true =>
    go_wp2_with fail
    go_ret
    exact ⟨_, rfl, B3.out⟩
/-- It answers, and true where both say the same. -/
theorem sameNode_b (n m : Nd) (w : World) (hn : n.Ok w) (hm : m.Ok w) :
    Calls Try.prog 22 #[n.v, m.v] w fun e w' => ∃ bb : Bool, e = .returned (.bool bb) ∧ (n.p = m.p → bb = true) ∧ Below w.heap.size w w' := by
  by_cases h : n.p = m.p
  · exact (sameNode_any n m w hn hm h).mono fun e w' ⟨h1, h2⟩ => ⟨true, h1, fun _ => rfl, h2⟩
  · exact (sameNode_g n m w hn hm).mono fun e w' ⟨bb, h1, h2⟩ => ⟨bb, h1, fun e => absurd e h, h2⟩


/-- Slot id, from s on to t: its word is d more; d is at most m, and where it is none the node is as it was. -/
structure Since (s t : AS) (id : Int) (m : Nat) : Prop where
  inn : t.inn id
  d : ∃ d, d ≤ m ∧ t.w id = (s.w id + d) % 18446744073709551616 ∧ (d = 0 → t.n id = s.n id)
theorem AS.w_setw {s : AS} {k : Int} (hk : s.inn k) (x : Nat) {j : Int} (hj : s.inn j) : (s.setw k x).w j = if j = k then x else s.w j := by
  by_cases h : j = k
  · rw [if_pos h, h]; exact AS.setw_w hk
  · rw [if_neg h]
    obtain ⟨i, hi, _, e⟩ := AS.idx hk
    have hne := AS.idx_ne hj hk h
    unfold AS.w AS.setw
    simp only [e]
    rw [e] at hne
    rw [List.getD_eq_getElem?_getD, List.getElem?_set_ne (fun e => hne e.symm), ← List.getD_eq_getElem?_getD]
section
variable {s t : AS} {id : Int} {m : Nat}
theorem Since.mono {m' : Nat} (h : Since s t id m) (hm : m ≤ m') : Since s t id m' := by
  obtain ⟨d, h1, h2⟩ := h.d
  exact ⟨h.inn, d, by omega, h2⟩
/-- A word turns by one more. -/
theorem Since.bump (h : Since s t id m) {k : Int} (hk : t.inn k) {x : Nat} (hx : x = (t.w k + 1) % 18446744073709551616) : Since s (t.setw k x) id (m + 1) := by
  obtain ⟨d, h1, h2, h3⟩ := h.d
  refine ⟨AS.setw_inn h.inn, ?_⟩
  by_cases e : id = k
  · refine ⟨d + 1, by omega, ?_, fun e => by omega⟩
    rw [AS.w_setw hk x h.inn, if_pos e, hx, ← e, h2]
    omega
  · refine ⟨d, by omega, ?_, fun e0 => ?_⟩
    · rw [AS.w_setw hk x h.inn, if_neg e]; exact h2
    · rw [AS.n_setw hk]; exact h3 e0
/-- A node turns under a latch that is held. -/
theorem Since.turn (h : Since s t id m) (he : s.w id % 2 = 0) (_hs : s.w id < 18446744073709551616) {k : Int} (hk : t.inn k) (ho : t.w k % 2 = 1) (p : NP) : Since s (t.setn k p) id m := by
  obtain ⟨d, h1, h2, h3⟩ := h.d
  refine ⟨(AS.inn_of_len (AS.setn_len _ _ _) id).2 h.inn, d, h1, by rw [AS.w_setn hk]; exact h2, fun e0 => ?_⟩
  have hne : id ≠ k := fun e => by
    subst e0
    rw [← e, h2] at ho
    omega
  rw [AS.n_setn hk p h.inn, if_neg hne]
  exact h3 e0
theorem Since.lock (h : Since s t id m) (k : Int) (x : Nat) (hx : x < 18446744073709551616) : Since s (t.lockS k x) id (m + 1) := by
  unfold AS.lockS
  split
  · rename_i hc
    refine h.bump hc.1 ?_
    rw [hc.2.1]
    have := hc.2.2
    omega
  · exact h.mono (by omega)
theorem Since.unl (h : Since s t id m) (k : Int) : Since s (t.unlS k true) id (m + 1) := by
  unfold AS.unlS
  split
  · rename_i hE
    refine h.bump (unl_in hE).1 ?_
    unfold freeW
    simp
  · exact h.mono (by omega)
theorem Since.hed (h : Since s t id m) (he : s.w id % 2 = 0) (hs : s.w id < 18446744073709551616) (k lv : Int) (hi : List Int) (ri : Int) : Since s (t.hedS k lv hi ri) id m := by
  unfold AS.hedS
  split
  · rename_i hE
    exact h.turn he hs (unl_in hE).1 (unl_in hE).2 _
  · exact h
theorem Since.bod (h : Since s t id m) (he : s.w id % 2 = 0) (hs : s.w id < 18446744073709551616) (k : Int) (ks vs : List (List Int)) (cs : List Int) : Since s (t.bodS k ks vs cs) id m := by
  unfold AS.bodS
  split
  · rename_i hE
    exact h.turn he hs (unl_in hE).1 (unl_in hE).2 _
  · exact h
theorem getD_app {α : Type} {l l' : List α} {i : Nat} {d : α} (h : i < l.length) : (l ++ l').getD i d = l.getD i d := by
  rw [List.getD_eq_getElem?_getD, List.getElem?_append_left h, ← List.getD_eq_getElem?_getD]
theorem Since.all (h : Since s t id m) : Since s t.allS id m := by
  unfold AS.allS
  split
  · obtain ⟨d, h1, h2, h3⟩ := h.d
    obtain ⟨i, hi, hid, e⟩ := AS.idx h.inn
    have hw : AS.w ⟨t.nodes, t.root, t.sl ++ [(1, NP.zero)]⟩ id = t.w id := by unfold AS.w; simp only [e]; rw [getD_app hi]
    have hn : AS.n ⟨t.nodes, t.root, t.sl ++ [(1, NP.zero)]⟩ id = t.n id := by unfold AS.n; simp only [e]; rw [getD_app hi]
    refine ⟨?_, d, h1, by rw [hw]; exact h2, fun e0 => by rw [hn]; exact h3 e0⟩
    have := h.inn
    unfold AS.inn at *
    simp only [List.length_append, List.length_singleton]
    omega
  · exact h
theorem Since.fin (h : Since s t id m) (he : s.w id % 2 = 0) (hs : s.w id < 18446744073709551616) (k : Int) (p : NP) : Since s (t.finS k p) id (m + 1) := ((h.hed he hs k _ _ _).bod he hs k _ _ _).unl k
theorem wlt_word (t : AS) (h : ∀ k, t.inn k → t.w k < 18446744073709551616) (k : Int) : t.wordW k < 18446744073709551616 := by
  unfold AS.wordW
  split
  · rename_i hk; exact h k hk
  · decide
theorem Since.raw (h : Since s t id m) (he : s.w id % 2 = 0) (hs : s.w id < 18446744073709551616) (hw : ∀ k, t.inn k → t.w k < 18446744073709551616) (o : AOp) (ho : o.w < 18446744073709551616) (hc : o.ch = true) : Since s (t.raw o) id (m + 2) := by
  unfold AS.raw
  split
  · exact h.all.mono (by omega)
  split
  · exact h.mono (by omega)
  split
  · exact (h.lock _ _ (wadd_lt _ _)).mono (by omega)
  split
  · rw [hc]; exact (h.unl _).mono (by omega)
  split
  · exact (h.hed he hs _ _ _ _).mono (by omega)
  split
  · exact (h.bod he hs _ _ _ _).mono (by omega)
  split
  · refine Since.mono ?_ (Nat.le_refl _) |>.mono (show m ≤ m + 2 by omega)
    unfold AS.groS
    split
    · obtain ⟨d, h1, h2, h3⟩ := h.d
      exact ⟨h.inn, d, h1, h2, h3⟩
    · exact h
  split
  · unfold AS.layS
    split
    · split
      · exact (h.all.fin he hs _ _).mono (by omega)
      · exact h.mono (by omega)
    · exact ((h.lock _ _ (wlt_word t hw _)).fin he hs _ _).mono (by omega)
  · exact (h.lock _ _ ho).mono (by omega)
/-- The same even word: the same node. -/
theorem Since.seen (h : Since s t id m) (hm : m < 18446744073709551616) (_hs : s.w id < 18446744073709551616) (hw : t.w id = s.w id) : t.n id = s.n id := by
  obtain ⟨d, h1, h2, h3⟩ := h.d
  refine h3 ?_
  rw [hw] at h2
  omega
theorem Since.refl (hin : s.inn id) (hs : s.w id < 18446744073709551616) : Since s s id 0 := ⟨hin, 0, Nat.le_refl _, by omega, fun _ => rfl⟩
end


theorem infoW : (Try.prog.info? 29).map (fun i => (i.zero, i.size, i.bytes)) = some (some (.int .u64 0), 1, 8) := by kernel_rfl
theorem infoN : (Try.prog.info? 37).map (fun i => (i.zero, i.size, i.bytes)) = some (some (.agg #[.int .i64 0, .slice none 0 0, .int .i64 0, .slice none 0 0, .slice none 0 0, .slice none 0 0]), 6, 112) := by kernel_rfl
theorem six_new (w : World) (a0 a1 a2 a3 a4 a5 : Value) (T : TypeId) : ∀ j u, [a0, a1, a2, a3, a4, a5][j]? = some u → (w.alloc (.cells #[a0, a1, a2, a3, a4, a5] T)).cell? ((⟨w.heap.size, 0, none⟩ : Addr).add j) = some u := by
  intro j u hu
  rw [Addr.add_lit, Nat.zero_add, cell_of_row _ _ _ _ _ _ (heap_alloc_new w _), ← Array.getElem?_toList]
  exact hu
def Nd.six (n : Nd) : List Value := [.int .i64 n.lv, n.hi.v, .int .i64 n.ri, n.ks.v, n.vs.v, n.cs.v]
def wsOf (s : AS) (q : Nat) : List Value := (List.range q).map fun (i : Nat) => .int .u64 ((s.w ((i : Int) + 1) : Nat) : Int)
theorem wsOf_next (s : AS) (q : Nat) : wsOf s (q + 1) = wsOf s q ++ [.int .u64 ((s.w ((q : Int) + 1) : Nat) : Int)] := by
  unfold wsOf
  rw [List.range_succ, List.map_append]
  rfl
theorem wsOf_get (s : AS) (q i : Nat) (h : i < q) : (wsOf s q)[i]? = some (.int .u64 ((s.w ((i : Int) + 1) : Nat) : Int)) := by
  unfold wsOf
  rw [List.getElem?_map, List.getElem?_range h]
  rfl
theorem six_get (L : List Nd) (i j : Nat) (hi : i < L.length) (hj : j < 6) : (L.flatMap Nd.six)[i * 6 + j]? = (L[i].six)[j]? := by
  induction L generalizing i with
  | nil => cases hi
  | cons a L ih =>
    rw [List.flatMap_cons]
    cases i with
    | zero =>
      rw [List.getElem?_append_left (by show 0 * 6 + j < 6; omega)]
      simp
    | succ i =>
      rw [List.getElem?_append_right (by show 6 ≤ (i + 1) * 6 + j; omega), show (i + 1) * 6 + j - a.six.length = i * 6 + j by show (i + 1) * 6 + j - 6 = _; omega]
      exact ih i (by simpa using hi)
theorem Nd.In.and {D E : Nat → Prop} {n : Nd} (h : n.In D) (g : n.In E) : n.In (fun k => D k ∧ E k) :=
  ⟨fun x e l => ⟨h.h x e l, g.h x e l⟩, fun x e l => ⟨h.k x e l, g.k x e l⟩, fun t ht x e l => ⟨h.ke t ht x e l, g.ke t ht x e l⟩, fun x e l => ⟨h.v x e l, g.v x e l⟩, fun t ht x e l => ⟨h.ve t ht x e l, g.ve t ht x e l⟩, fun x e l => ⟨h.c x e l, g.c x e l⟩⟩

/-- The rows: the words of q slots, the nodes R; the nodes M have been read. -/
structure Rec (s : AS) (base : Nat) (W : World) (R M : List Nd) (q : Nat) (vw vn : Value) : Prop where
  w : W.ownsRow base 29 1 vw q (wsOf s q)
  n : W.ownsRow base 37 6 vn R.length (R.flatMap Nd.six)
  ok : ∀ m ∈ M, m.Ok W
  i : ∀ m ∈ M, m.In (fun k => base ≤ k ∧ vw.ownBlock ≠ some k ∧ vn.ownBlock ≠ some k)
  ne : ∀ k, vw.ownBlock = some k → vn.ownBlock ≠ some k
  p : ∀ i (h : i < M.length), M[i].p = s.n ((i : Int) + 1)
section
variable {s : AS} {base : Nat} {W W' : World} {R M : List Nd} {q : Nat} {vw vn : Value}
theorem Rec.nil (s : AS) (base : Nat) (W : World) : Rec s base W [] [] 0 (.slice none 0 0) (.slice none 0 0) :=
  ⟨World.ownsRow_nil _ _ _ _, World.ownsRow_nil _ _ _ _, (fun _ h => nomatch h), (fun _ h => nomatch h), (fun _ h => nomatch h), (fun _ h => nomatch h)⟩
theorem Rec.below (h : Rec s base W R M q vw vn) (hb : Below W.heap.size W W') : Rec s base W' R M q vw vn :=
  ⟨owns_blkN h.w (fun k hk => hb.block k (h.w.lt k hk).2), owns_blkN h.n (fun k hk => hb.block k (h.n.lt k hk).2), fun m hm => (h.ok m hm).below hb, h.i, h.ne, h.p⟩
theorem Rec.kept {K : Nat → Prop} (h : Rec s base W R M q vw vn) (hU : Upd (fun k => ¬ K k) W W') (hK : ∀ k, base ≤ k → k < W.heap.size → K k) : Rec s base W' R M q vw vn :=
  ⟨owns_blkN h.w (fun k hk => hU.block k (h.w.lt k hk).2 (fun e => e (hK k (h.w.lt k hk).1 (h.w.lt k hk).2))), owns_blkN h.n (fun k hk => hU.block k (h.n.lt k hk).2 (fun e => e (hK k (h.n.lt k hk).1 (h.n.lt k hk).2))),
    fun m hm => (h.ok m hm).upd ((h.i m hm).and (h.ok m hm).in_) hU (fun k hk e => e (hK k hk.1.1 hk.2)), h.i, h.ne, h.p⟩
theorem Rec.add (h : Rec s base W R M q vw vn) (hb : Below W.heap.size W W') (m : Nd) (hm : m.Ok W') (hi : m.In (fun k => W.heap.size ≤ k)) (hp : m.p = s.n ((M.length : Int) + 1)) (hbase : base ≤ W.heap.size) : Rec s base W' R (M ++ [m]) q vw vn := by
  have h1 := h.below hb
  refine ⟨h1.w, h1.n, fun x hx => ?_, fun x hx => ?_, h.ne, fun i hi => ?_⟩
  · rcases List.mem_append.1 hx with hx | hx
    · exact h1.ok x hx
    · obtain rfl := List.mem_singleton.1 hx; exact hm
  · rcases List.mem_append.1 hx with hx | hx
    · exact h1.i x hx
    · obtain rfl := List.mem_singleton.1 hx
      exact hi.mono (fun k hk => ⟨by omega, fun e => by have := (h.w.lt k e).2; omega, fun e => by have := (h.n.lt k e).2; omega⟩)
  · by_cases hl : i < M.length
    · rw [List.getElem_append_left hl]; exact h.p i hl
    · rw [List.getElem_append_right (by omega)]
      have : i = M.length := by simp at hi; omega
      subst this
      simp [hp]
theorem Rec.word (h : Rec s base W R M q vw vn) {g c : Nat} (ho : W'.ownsRow base 29 1 (.slice (some ⟨g, 0, none⟩) (q + 1) c) (q + 1) (wsOf s q ++ [.int .u64 ((s.w ((q : Int) + 1) : Nat) : Int)])) (hg : W.grownBy W' vw.ownBlock) (hor : vw.ownBlock = some g ∨ W.heap.size ≤ g) : Rec s base W' R M (q + 1) (.slice (some ⟨g, 0, none⟩) (q + 1) c) vn := by
  refine ⟨by rw [wsOf_next]; exact ho, owns_blkN h.n (fun k hk => hg.block k (h.n.lt k hk).2 (fun e => h.ne k e.symm hk)), fun m hm => (h.ok m hm).upd (h.i m hm) (Upd.of_grown (S := fun k => vw.ownBlock = some k) hg (fun k hk _ => hk)) (fun k hk e => hk.2.1 e), fun m hm => ?_, fun k hk e => ?_, h.p⟩
  · refine ((h.i m hm).and (h.ok m hm).in_).mono (fun k hk => ⟨hk.1.1, fun e => ?_, hk.1.2.2⟩)
    obtain rfl : g = k := Option.some.inj e
    rcases hor with hor | hor
    · exact hk.1.2.1 hor
    · have := hk.2; omega
  · obtain rfl : g = k := Option.some.inj hk
    rcases hor with hor | hor
    · exact h.ne g hor e
    · have := (h.n.lt g e).2; omega
theorem Rec.node (h : Rec s base W R M q vw vn) {g c : Nat} (m : Nd) (ho : W'.ownsRow base 37 6 (.slice (some ⟨g, 0, none⟩) (R.length + 1) c) (R.length + 1) (R.flatMap Nd.six ++ m.six)) (hg : W.grownBy W' vn.ownBlock) (hor : vn.ownBlock = some g ∨ W.heap.size ≤ g) : Rec s base W' (R ++ [m]) M q vw (.slice (some ⟨g, 0, none⟩) (R.length + 1) c) := by
  refine ⟨owns_blkN h.w (fun k hk => hg.block k (h.w.lt k hk).2 (fun e => h.ne k hk e.symm)), ?_, fun m hm => (h.ok m hm).upd (h.i m hm) (Upd.of_grown (S := fun k => vn.ownBlock = some k) hg (fun k hk _ => hk)) (fun k hk e => hk.2.2 e), fun m hm => ?_, fun k hk e => ?_, h.p⟩
  · rw [List.flatMap_append, List.flatMap_singleton, List.length_append, List.length_singleton]; exact ho
  · refine ((h.i m hm).and (h.ok m hm).in_).mono (fun k hk => ⟨hk.1.1, hk.1.2.1, fun e => ?_⟩)
    obtain rfl : g = k := Option.some.inj e
    rcases hor with hor | hor
    · exact hk.1.2.2 hor
    · have := hk.2; omega
  · obtain rfl : g = k := Option.some.inj e
    rcases hor with hor | hor
    · exact h.ne g hk hor
    · have := (h.w.lt g hk).2; omega
/-- What is read of them. -/
theorem Rec.look {j cw cn : Nat} {aw an : Option Addr} (h : Rec s base W M M j (.slice aw j cw) (.slice an j cn)) (hl : M.length = j) (i : Nat) (hi : i < M.length) : ∃ gw gn, aw = some ⟨gw, 0, none⟩ ∧ an = some ⟨gn, 0, none⟩ ∧ W.cell? ⟨gw, i, none⟩ = some (.int .u64 ((s.w ((i : Int) + 1) : Nat) : Int)) ∧ Six' W gn (i * 6) M[i] ∧ M[i].Ok W ∧ M[i].p = s.n ((i : Int) + 1) := by
  have e1 : ∃ gw, aw = some ⟨gw, 0, none⟩ := by
    rcases h.w.2 with ⟨hv, h0⟩ | ⟨g, cap, cur, hv, _⟩
    · omega
    · cases hv; exact ⟨g, rfl⟩
  have e2 : ∃ gw, an = some ⟨gw, 0, none⟩ := by
    rcases h.n.2 with ⟨hv, h0⟩ | ⟨g, cap, cur, hv, _⟩
    · omega
    · cases hv; exact ⟨g, rfl⟩
  obtain ⟨gw, rfl⟩ := e1
  obtain ⟨gn, rfl⟩ := e2
  have c1 := h.w.cells rfl i _ (wsOf_get s j i (by omega))
  have c2 : ∀ k u, k < 6 → (M[i].six)[k]? = some u → W.cell? ⟨gn, i * 6 + k, none⟩ = some u := fun k u hk hu => by
    have := h.n.cells rfl (i * 6 + k) u (by rw [six_get M i k hi hk]; exact hu)
    rw [Addr.add_lit, Nat.zero_add] at this
    exact this
  rw [Addr.add_lit, Nat.zero_add] at c1
  exact ⟨gw, gn, rfl, rfl, c1, ⟨c2 0 _ (by decide) rfl, c2 1 _ (by decide) rfl, c2 2 _ (by decide) rfl, c2 3 _ (by decide) rfl, c2 4 _ (by decide) rfl, c2 5 _ (by decide) rfl⟩, h.ok _ (List.getElem_mem hi), h.p i hi⟩
end
/-- A node of one's own, from its two halves. -/
theorem nd_own {W0 W1 W2 W3 W : World} {q : NP} {t : Tx} {k v : TL} {c : IL} (h1 : t.s = q.hi) (h2 : OwnB W1 W0.heap.size 5 t.v t.s) (h3 : B8 t.s) (h4 : t.s.length ≤ 140737488351232)
    (k1 : k.p = q.ks) (k2 : v.p = q.vs) (k3 : c.s = q.cs) (o1 : k.Own W3 W2.heap.size) (o2 : v.Own W3 W2.heap.size) (o3 : W3.ownsRow W2.heap.size 3 1 c.v c.s.length (c.s.map (Value.int .i64)))
    (z : k.L.length * 24 ≤ 140737488352000 ∧ v.L.length * 24 ≤ 140737488352000 ∧ c.s.length * 8 ≤ 140737488352000) (b1 : Below W1.heap.size W1 W) (b3 : Below W3.heap.size W3 W) (hz : W0.heap.size ≤ W2.heap.size) :
    (⟨q.lv, t, q.ri, k, v, c⟩ : Nd).Ok W ∧ (⟨q.lv, t, q.ri, k, v, c⟩ : Nd).In (fun k => W0.heap.size ≤ k) ∧ (⟨q.lv, t, q.ri, k, v, c⟩ : Nd).p = q := by
  have oW : (⟨q.lv, ⟨none, 0, []⟩, q.ri, k, v, c⟩ : Nd).Ok W := (show (⟨q.lv, ⟨none, 0, []⟩, q.ri, k, v, c⟩ : Nd).Ok W3 from ⟨Tx.nil_ok _, o1.ok, o2.ok, il_of_owns o3, z.1, z.2.1, z.2.2⟩).below b3
  refine ⟨⟨ownB_ok (h2.below b1) h3 h4, oW.k, oW.v, oW.c, z.1, z.2.1, z.2.2⟩, ⟨fun x e _ => (ownB_in h2 x e).1, fun x e _ => ?_, fun t ht x e _ => ?_, fun x e _ => ?_, fun t ht x e _ => ?_, fun x e _ => ?_⟩, ?_⟩
  · have := (owns_in o1.row x e).1; omega
  · have := (ownB_in (o1.each t ht) x e).1; omega
  · have := (owns_in o2.row x e).1; omega
  · have := (ownB_in (o2.each t ht) x e).1; omega
  · have := (owns_in o3 x e).1; omega
  · obtain ⟨q1, q2, q3, q4, q5, q6⟩ := q
    simp only [Nd.p, NP.mk.injEq]
    exact ⟨trivial, h1, trivial, k1, k2, k3⟩

end Go.Proofs.Ytpfmfobnanhcdaa
