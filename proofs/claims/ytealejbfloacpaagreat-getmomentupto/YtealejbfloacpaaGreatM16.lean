/- Texts of one's own. -/
import Derived.Test.YtealejbfloacpaaGreatM15
import Derived.Test.YtealejbfloacpaaGreatM8
import Derived.Test.YtealejbfloacpaaGreatM11
import Derived.Test.YtealejbfloacpaaGreatM12
namespace Go.Proofs.YtealejbfloacpaaGreat
open Go.RowKit
set_option maxRecDepth 100000
section
variable {K : Nat → Prop} {W : World} {P AX AY : Nat} {s : AS}
set_option maxRecDepth 100000 in
set_option maxHeartbeats 3200000 in
theorem raw2 (h : AW K W P AX AY s s) (o : AOp) (ho : o.Ok K W) (hk : pickN o.kind 9 = 2) : Calls Tryz.prog 57 #[.pointer (some ⟨P, 0, none⟩), o.v] W (AwPost K W P AX AY (s.lockS (s.id o.a) (wadd (s.wordW (s.id o.a)) (pickN o.b 3)))) := by
 obtain ⟨kd, ra, rb, rw', ch, n⟩ := o
 obtain ⟨⟨k1, k2⟩, ⟨a1, a2⟩, ⟨b1, b2⟩, w1, hn, hi⟩ := ho
 simp only at hk k1 k2 a1 a2 b1 b2 w1 hn hi
 simp only [AOp.v]
 have hid : s.id ra = ((pickN ra (s.sl.length + 2) : Nat) : Int) := rfl
 obtain ⟨w0, hw0⟩ : ∃ w0, w0 = W.alloc (.cells #[.int .i64 kd, .int .i64 ra, .int .i64 rb, .int .u64 (rw' : Nat), .bool ch, .int .i64 n.lv, n.hi.v, .int .i64 n.ri, n.ks.v, n.vs.v, n.cs.v] 131) := ⟨_, rfl⟩
 have b0 : Below W.heap.size W w0 := by rw [hw0]; exact (Below.refl _ _).alloc (Nat.le_refl _) _
 have z0 : w0.heap.size = W.heap.size + 1 := by rw [hw0]; simp
 have g0 : w0.heap[W.heap.size]? = some (.cells #[.int .i64 kd, .int .i64 ra, .int .i64 rb, .int .u64 (rw' : Nat), .bool ch, .int .i64 n.lv, n.hi.v, .int .i64 n.ri, n.ks.v, n.vs.v, n.cs.v] 131 (0, 0)) := by rw [hw0]; exact heap_alloc_new W _
 obtain ⟨K', hK'⟩ : ∃ K' : Nat → Prop, K' = fun k => K k ∨ k = W.heap.size := ⟨_, rfl⟩
 have hA0 : AW K' w0 P AX AY s s := h.more b0 (fun k hk => by rw [hK'] at hk; rcases hk with hk | hk; exact .inl hk; exact .inr (by omega)) (by rw [hK']; exact .inl h.kp)
 have hi0 : n.In K' := hi.mono (fun k hk => by rw [hK']; exact .inl hk)
 have kb : K' W.heap.size := by rw [hK']; exact .inr rfl
 have kk : ∀ k, K k → K' k := fun k hk => by rw [hK']; exact .inl hk
 have HEND : Hid (∀ w' u, AW K' w' P AX AY u u → Upd (fun k => ¬ K' k) w0 w' → AwPost K W P AX AY u (.returned (.bool true)) w') := fun w' u h1 h2 => ⟨rfl, h1.less kk h.kp, (kept_below b0).trans (kept_less h2 kk)⟩
 have HCE : Hid (∀ w', Upd (fun k => ¬ K' k) w0 w' → w'.heap[W.heap.size]? = some (.cells #[.int .i64 kd, .int .i64 ra, .int .i64 rb, .int .u64 (rw' : Nat), .bool ch, .int .i64 n.lv, n.hi.v, .int .i64 n.ri, n.ks.v, n.vs.v, n.cs.v] 131 (0, 0))) := fun w' hu => kept_heap hu g0 kb
 have HOK : Hid (∀ w', Upd (fun k => ¬ K' k) w0 w' → n.Ok w') := fun w' hu => (hn.below b0).kept hi0 hu
 have HIN := hide hi0
 have HU0 : Hid (Upd (fun k => ¬ K' k) w0 w0) := Upd.refl _ _
 have HID := hide (wid_any hA0 ra a1 a2)
 have HIDB := hide (wid_any hA0 rb b1 b2)
 have HPK := hide (pick_any kd 9 w0 (by decide) (by decide) k1 k2)
 rw [hk, show (((2 : Nat)) : Int) = 2 from rfl, show (((9 : Nat)) : Int) = 9 from rfl] at HPK
 have HLEN := hide hA0.len
 obtain ⟨c0, c1⟩ := hA0.cells
 rw [← hid] at HID
 have HA0 := hide hA0
 have HW := hide hw0
 clear h hn hi hK' hA0 hi0 kb kk b0 hw0 z0 k1 k2 hk hid
 have WY := hide (aw_wordY HA0.out (s.id ra))
 have HPB := hide (pick_any rb 3 w0 (by decide) (by decide) b1 b2)
 rw [show (((3 : Nat)) : Int) = 3 from rfl] at HPB
 have hpb := pickN_lt rb 3 (by decide)
 have LCK := hide (wlock_any HA0.out (s.id ra) (wadd (s.wordW (s.id ra)) (pickN rb 3)) (wadd_lt _ _))
 have HNM := hide (wadd_eq (s.wordW (s.id ra)) (pickN rb 3))
 obtain ⟨lv, ⟨ha, hc, hs⟩, ri, ⟨ka, kc, KL⟩, ⟨va, vc, V⟩, ⟨ca, cc, C⟩⟩ := n
 simp only [Tx.v, TL.v, IL.v] at *
 generalize hs.length = lh at *
 generalize KL.length = lk at *
 generalize V.length = lw at *
 generalize C.length = lc at *
 generalize wadd (s.wordW (s.id ra)) (pickN rb 3) = xx at *
 generalize s.wordW (s.id ra) = ww at *
 generalize s.wordE (s.id ra) = we at *
 generalize pickN rb 3 = pb at *
 have y0 : w0.cell? ⟨W.heap.size, 0, none⟩ = some (.int .i64 kd) := row_cell g0 0 rfl
 have y1 : w0.cell? ⟨W.heap.size, 1, none⟩ = some (.int .i64 ra) := row_cell g0 1 rfl
 have y2 : w0.cell? ⟨W.heap.size, 2, none⟩ = some (.int .i64 rb) := row_cell g0 2 rfl
 have y3 : w0.cell? ⟨W.heap.size, 3, none⟩ = some (.int .u64 (rw' : Nat)) := row_cell g0 3 rfl
 have y4 : w0.cell? ⟨W.heap.size, 4, none⟩ = some (.bool ch) := row_cell g0 4 rfl
 have y5 : w0.cell? ⟨W.heap.size, 5, none⟩ = some (.int .i64 lv) := row_cell g0 5 rfl
 have y6 : w0.cell? ⟨W.heap.size, 6, none⟩ = some (.slice ha lh hc) := row_cell g0 6 rfl
 have y7 : w0.cell? ⟨W.heap.size, 7, none⟩ = some (.int .i64 ri) := row_cell g0 7 rfl
 have y8 : w0.cell? ⟨W.heap.size, 8, none⟩ = some (.slice ka lk kc) := row_cell g0 8 rfl
 have y9 : w0.cell? ⟨W.heap.size, 9, none⟩ = some (.slice va lw vc) := row_cell g0 9 rfl
 have y10 : w0.cell? ⟨W.heap.size, 10, none⟩ = some (.slice ca lc cc) := row_cell g0 10 rfl
 clear g0
 generalize s.id ra = id at *
 go_enter Tryz.func57, Tryz.ntmps57
 go_wp2_with fail
 rw [← HW.out]
 refine keep HID.out ?_
 go_wp2_with fail
 refine keep HPK.out ?_
 go_wp2_with fail
 refine keep WY.out ?_
 go_wp2_with fail
 refine keep HPB.out ?_
 go_wp2_with fail
 rw [HNM.out]
 refine LCK.out.mono ?_
 rintro e w2 ⟨rfl, hA, hU⟩
 have HF := hide (HEND.out w2 _ hA hU)
 clear hA hU HEND
 go_wp2_with fail
 go_ret
 exact HF.out
set_option maxRecDepth 100000 in
set_option maxHeartbeats 3200000 in
theorem raw3 (h : AW K W P AX AY s s) (o : AOp) (ho : o.Ok K W) (hk : pickN o.kind 9 = 3) : Calls Tryz.prog 57 #[.pointer (some ⟨P, 0, none⟩), o.v] W (AwPost K W P AX AY (s.unlS (s.id o.a) o.ch)) := by
 obtain ⟨kd, ra, rb, rw', ch, n⟩ := o
 obtain ⟨⟨k1, k2⟩, ⟨a1, a2⟩, ⟨b1, b2⟩, w1, hn, hi⟩ := ho
 simp only at hk k1 k2 a1 a2 b1 b2 w1 hn hi
 simp only [AOp.v]
 have hid : s.id ra = ((pickN ra (s.sl.length + 2) : Nat) : Int) := rfl
 obtain ⟨w0, hw0⟩ : ∃ w0, w0 = W.alloc (.cells #[.int .i64 kd, .int .i64 ra, .int .i64 rb, .int .u64 (rw' : Nat), .bool ch, .int .i64 n.lv, n.hi.v, .int .i64 n.ri, n.ks.v, n.vs.v, n.cs.v] 131) := ⟨_, rfl⟩
 have b0 : Below W.heap.size W w0 := by rw [hw0]; exact (Below.refl _ _).alloc (Nat.le_refl _) _
 have z0 : w0.heap.size = W.heap.size + 1 := by rw [hw0]; simp
 have g0 : w0.heap[W.heap.size]? = some (.cells #[.int .i64 kd, .int .i64 ra, .int .i64 rb, .int .u64 (rw' : Nat), .bool ch, .int .i64 n.lv, n.hi.v, .int .i64 n.ri, n.ks.v, n.vs.v, n.cs.v] 131 (0, 0)) := by rw [hw0]; exact heap_alloc_new W _
 obtain ⟨K', hK'⟩ : ∃ K' : Nat → Prop, K' = fun k => K k ∨ k = W.heap.size := ⟨_, rfl⟩
 have hA0 : AW K' w0 P AX AY s s := h.more b0 (fun k hk => by rw [hK'] at hk; rcases hk with hk | hk; exact .inl hk; exact .inr (by omega)) (by rw [hK']; exact .inl h.kp)
 have hi0 : n.In K' := hi.mono (fun k hk => by rw [hK']; exact .inl hk)
 have kb : K' W.heap.size := by rw [hK']; exact .inr rfl
 have kk : ∀ k, K k → K' k := fun k hk => by rw [hK']; exact .inl hk
 have HEND : Hid (∀ w' u, AW K' w' P AX AY u u → Upd (fun k => ¬ K' k) w0 w' → AwPost K W P AX AY u (.returned (.bool true)) w') := fun w' u h1 h2 => ⟨rfl, h1.less kk h.kp, (kept_below b0).trans (kept_less h2 kk)⟩
 have HCE : Hid (∀ w', Upd (fun k => ¬ K' k) w0 w' → w'.heap[W.heap.size]? = some (.cells #[.int .i64 kd, .int .i64 ra, .int .i64 rb, .int .u64 (rw' : Nat), .bool ch, .int .i64 n.lv, n.hi.v, .int .i64 n.ri, n.ks.v, n.vs.v, n.cs.v] 131 (0, 0))) := fun w' hu => kept_heap hu g0 kb
 have HOK : Hid (∀ w', Upd (fun k => ¬ K' k) w0 w' → n.Ok w') := fun w' hu => (hn.below b0).kept hi0 hu
 have HIN := hide hi0
 have HU0 : Hid (Upd (fun k => ¬ K' k) w0 w0) := Upd.refl _ _
 have HID := hide (wid_any hA0 ra a1 a2)
 have HIDB := hide (wid_any hA0 rb b1 b2)
 have HPK := hide (pick_any kd 9 w0 (by decide) (by decide) k1 k2)
 rw [hk, show (((3 : Nat)) : Int) = 3 from rfl, show (((9 : Nat)) : Int) = 9 from rfl] at HPK
 have HLEN := hide hA0.len
 obtain ⟨c0, c1⟩ := hA0.cells
 rw [← hid] at HID
 have HA0 := hide hA0
 have HW := hide hw0
 clear h hn hi hK' hA0 hi0 kb kk b0 hw0 z0 k1 k2 hk hid
 have CX : Hid (∀ w', AW K' w' P AX AY s s → Upd (fun k => ¬ K' k) w0 w' → Calls Tryz.prog 54 #[.pointer (some ⟨AX, 0, none⟩), .int .i64 (s.id ra), .bool ch] w' fun e w'' => e = .returned (.int .i64 (s.unlE (s.id ra))) ∧ AW K' w'' P AX AY (s.unlS (s.id ra) ch) s ∧ Upd (fun k => ¬ K' k) w' w'') := fun w' hw _ => hw.X (fun F hp => px_unlock hp (s.id ra) ch)
 have CY : Hid (∀ w' u, AW K' w' P AX AY u s → Upd (fun k => ¬ K' k) w0 w' → Calls Tryz.prog 102 #[.pointer (some ⟨AY, 0, none⟩), .int .i64 (s.id ra), .bool ch] w' fun e w'' => e = .returned (.int .i64 (s.unlE (s.id ra))) ∧ AW K' w'' P AX AY u (s.unlS (s.id ra) ch) ∧ Upd (fun k => ¬ K' k) w' w'') := fun w' u hw _ => hw.Y (fun F hp => rx_unlock hp (s.id ra) ch)
 obtain ⟨lv, ⟨ha, hc, hs⟩, ri, ⟨ka, kc, KL⟩, ⟨va, vc, V⟩, ⟨ca, cc, C⟩⟩ := n
 simp only [Tx.v, TL.v, IL.v] at *
 generalize s.unlE (s.id ra) = ue at *
 generalize hs.length = lh at *
 generalize KL.length = lk at *
 generalize V.length = lw at *
 generalize C.length = lc at *
 have y0 : w0.cell? ⟨W.heap.size, 0, none⟩ = some (.int .i64 kd) := row_cell g0 0 rfl
 have y1 : w0.cell? ⟨W.heap.size, 1, none⟩ = some (.int .i64 ra) := row_cell g0 1 rfl
 have y2 : w0.cell? ⟨W.heap.size, 2, none⟩ = some (.int .i64 rb) := row_cell g0 2 rfl
 have y3 : w0.cell? ⟨W.heap.size, 3, none⟩ = some (.int .u64 (rw' : Nat)) := row_cell g0 3 rfl
 have y4 : w0.cell? ⟨W.heap.size, 4, none⟩ = some (.bool ch) := row_cell g0 4 rfl
 have y5 : w0.cell? ⟨W.heap.size, 5, none⟩ = some (.int .i64 lv) := row_cell g0 5 rfl
 have y6 : w0.cell? ⟨W.heap.size, 6, none⟩ = some (.slice ha lh hc) := row_cell g0 6 rfl
 have y7 : w0.cell? ⟨W.heap.size, 7, none⟩ = some (.int .i64 ri) := row_cell g0 7 rfl
 have y8 : w0.cell? ⟨W.heap.size, 8, none⟩ = some (.slice ka lk kc) := row_cell g0 8 rfl
 have y9 : w0.cell? ⟨W.heap.size, 9, none⟩ = some (.slice va lw vc) := row_cell g0 9 rfl
 have y10 : w0.cell? ⟨W.heap.size, 10, none⟩ = some (.slice ca lc cc) := row_cell g0 10 rfl
 clear g0
 generalize s.id ra = id at *
 go_enter Tryz.func57, Tryz.ntmps57
 go_wp2_with fail
 rw [← HW.out]
 refine keep HID.out ?_
 go_wp2_with fail
 refine keep HPK.out ?_
 go_wp2_with fail
 go_region_held3 (fun W' => W'.cell? ⟨P, 0, none⟩ = some (.pointer (some ⟨AX, 0, none⟩)) ∧ W'.cell? ⟨P, 1, none⟩ = some (.pointer (some ⟨AY, 0, none⟩)) ∧ W'.cell? ⟨W.heap.size, 4, none⟩ = some (.bool ch)) (go_keep) (first
  | (go_at_call 102; refine (CY.out w1 _ A1.out U1.out).mono ?_; rintro e w2 ⟨rfl, hA, hU⟩; have A2 := hide hA; have U2 := hide (U1.out.trans hU); obtain ⟨f0, f1⟩ := hA.cells; have t4 := row_cell (HCE.out w2 U2.out) 4 rfl; clear hA hU)
  | (go_at_call 54; refine (CX.out w0.drew (HA0.out.below (below_drew (Below.refl _ _))) (HU0.out.drew)).mono ?_; rintro e w1 ⟨rfl, hA, hU⟩; have A1 := hide hA; have U1 : Hid (Upd (fun k => ¬ K' k) w0 w1) := ((Upd.refl _ w0).drew).trans hU; obtain ⟨d0, d1⟩ := hA.cells; have u4 := row_cell (HCE.out w1 U1.out) 4 rfl; clear hA hU)
  | fail)
 have HF := hide (HEND.out w2 _ A2.out U2.out)
 clear HEND d0 d1 f0 f1
 go_wp2_with fail
 go_ret
 have := HF.out
 simpa using this
end
end Go.Proofs.YtealejbfloacpaaGreat
namespace Go.Proofs.YtealejbfloacpaaGreat
open Go.RowKit
set_option maxRecDepth 100000
section
variable {K : Nat → Prop} {W : World} {P AX AY : Nat} {s : AS}
set_option maxRecDepth 100000 in
set_option maxHeartbeats 3200000 in
theorem raw4 (h : AW K W P AX AY s s) (o : AOp) (ho : o.Ok K W) (hk : pickN o.kind 9 = 4) : Calls Tryz.prog 57 #[.pointer (some ⟨P, 0, none⟩), o.v] W (AwPost K W P AX AY (s.hedS (s.id o.a) o.n.lv o.n.hi.s o.n.ri)) := by
 obtain ⟨kd, ra, rb, rw', ch, n⟩ := o
 obtain ⟨⟨k1, k2⟩, ⟨a1, a2⟩, ⟨b1, b2⟩, w1, hn, hi⟩ := ho
 simp only at hk k1 k2 a1 a2 b1 b2 w1 hn hi
 simp only [AOp.v]
 have hid : s.id ra = ((pickN ra (s.sl.length + 2) : Nat) : Int) := rfl
 obtain ⟨w0, hw0⟩ : ∃ w0, w0 = W.alloc (.cells #[.int .i64 kd, .int .i64 ra, .int .i64 rb, .int .u64 (rw' : Nat), .bool ch, .int .i64 n.lv, n.hi.v, .int .i64 n.ri, n.ks.v, n.vs.v, n.cs.v] 131) := ⟨_, rfl⟩
 have b0 : Below W.heap.size W w0 := by rw [hw0]; exact (Below.refl _ _).alloc (Nat.le_refl _) _
 have z0 : w0.heap.size = W.heap.size + 1 := by rw [hw0]; simp
 have g0 : w0.heap[W.heap.size]? = some (.cells #[.int .i64 kd, .int .i64 ra, .int .i64 rb, .int .u64 (rw' : Nat), .bool ch, .int .i64 n.lv, n.hi.v, .int .i64 n.ri, n.ks.v, n.vs.v, n.cs.v] 131 (0, 0)) := by rw [hw0]; exact heap_alloc_new W _
 obtain ⟨K', hK'⟩ : ∃ K' : Nat → Prop, K' = fun k => K k ∨ k = W.heap.size := ⟨_, rfl⟩
 have hA0 : AW K' w0 P AX AY s s := h.more b0 (fun k hk => by rw [hK'] at hk; rcases hk with hk | hk; exact .inl hk; exact .inr (by omega)) (by rw [hK']; exact .inl h.kp)
 have hi0 : n.In K' := hi.mono (fun k hk => by rw [hK']; exact .inl hk)
 have kb : K' W.heap.size := by rw [hK']; exact .inr rfl
 have kk : ∀ k, K k → K' k := fun k hk => by rw [hK']; exact .inl hk
 have HEND : Hid (∀ w' u, AW K' w' P AX AY u u → Upd (fun k => ¬ K' k) w0 w' → AwPost K W P AX AY u (.returned (.bool true)) w') := fun w' u h1 h2 => ⟨rfl, h1.less kk h.kp, (kept_below b0).trans (kept_less h2 kk)⟩
 have HCE : Hid (∀ w', Upd (fun k => ¬ K' k) w0 w' → w'.heap[W.heap.size]? = some (.cells #[.int .i64 kd, .int .i64 ra, .int .i64 rb, .int .u64 (rw' : Nat), .bool ch, .int .i64 n.lv, n.hi.v, .int .i64 n.ri, n.ks.v, n.vs.v, n.cs.v] 131 (0, 0))) := fun w' hu => kept_heap hu g0 kb
 have HOK : Hid (∀ w', Upd (fun k => ¬ K' k) w0 w' → n.Ok w') := fun w' hu => (hn.below b0).kept hi0 hu
 have HIN := hide hi0
 have HU0 : Hid (Upd (fun k => ¬ K' k) w0 w0) := Upd.refl _ _
 have HID := hide (wid_any hA0 ra a1 a2)
 have HIDB := hide (wid_any hA0 rb b1 b2)
 have HPK := hide (pick_any kd 9 w0 (by decide) (by decide) k1 k2)
 rw [hk, show (((4 : Nat)) : Int) = 4 from rfl, show (((9 : Nat)) : Int) = 9 from rfl] at HPK
 have HLEN := hide hA0.len
 obtain ⟨c0, c1⟩ := hA0.cells
 rw [← hid] at HID
 have HA0 := hide hA0
 have HW := hide hw0
 clear h hn hi hK' hA0 hi0 kb kk b0 hw0 z0 k1 k2 hk hid
 have CX : Hid (∀ w', AW K' w' P AX AY s s → Upd (fun k => ¬ K' k) w0 w' → Calls Tryz.prog 103 #[.pointer (some ⟨AX, 0, none⟩), .int .i64 (s.id ra), .agg #[.int .i64 n.lv, n.hi.v, .int .i64 n.ri]] w' fun e w'' => e = .returned (.int .i64 (s.unlE (s.id ra))) ∧ AW K' w'' P AX AY (s.hedS (s.id ra) n.lv n.hi.s n.ri) s ∧ Upd (fun k => ¬ K' k) w' w'') := fun w' hw hu => hw.X (fun F hp => px_setH hp (s.id ra) n.lv n.ri n.hi (HOK.out w' hu).h)
 have CY : Hid (∀ w' u, AW K' w' P AX AY u s → Upd (fun k => ¬ K' k) w0 w' → Calls Tryz.prog 104 #[.pointer (some ⟨AY, 0, none⟩), .int .i64 (s.id ra), .agg #[.int .i64 n.lv, n.hi.v, .int .i64 n.ri]] w' fun e w'' => e = .returned (.int .i64 (s.unlE (s.id ra))) ∧ AW K' w'' P AX AY u (s.hedS (s.id ra) n.lv n.hi.s n.ri) ∧ Upd (fun k => ¬ K' k) w' w'') := fun w' u hw hu => hw.Y (fun F hp => rx_setH hp (s.id ra) n.lv n.ri n.hi (HOK.out w' hu).h)
 obtain ⟨lv, ⟨ha, hc, hs⟩, ri, ⟨ka, kc, KL⟩, ⟨va, vc, V⟩, ⟨ca, cc, C⟩⟩ := n
 simp only [Tx.v, TL.v, IL.v] at *
 generalize s.unlE (s.id ra) = ue at *
 generalize hs.length = lh at *
 generalize KL.length = lk at *
 generalize V.length = lw at *
 generalize C.length = lc at *
 have y0 : w0.cell? ⟨W.heap.size, 0, none⟩ = some (.int .i64 kd) := row_cell g0 0 rfl
 have y1 : w0.cell? ⟨W.heap.size, 1, none⟩ = some (.int .i64 ra) := row_cell g0 1 rfl
 have y2 : w0.cell? ⟨W.heap.size, 2, none⟩ = some (.int .i64 rb) := row_cell g0 2 rfl
 have y3 : w0.cell? ⟨W.heap.size, 3, none⟩ = some (.int .u64 (rw' : Nat)) := row_cell g0 3 rfl
 have y4 : w0.cell? ⟨W.heap.size, 4, none⟩ = some (.bool ch) := row_cell g0 4 rfl
 have y5 : w0.cell? ⟨W.heap.size, 5, none⟩ = some (.int .i64 lv) := row_cell g0 5 rfl
 have y6 : w0.cell? ⟨W.heap.size, 6, none⟩ = some (.slice ha lh hc) := row_cell g0 6 rfl
 have y7 : w0.cell? ⟨W.heap.size, 7, none⟩ = some (.int .i64 ri) := row_cell g0 7 rfl
 have y8 : w0.cell? ⟨W.heap.size, 8, none⟩ = some (.slice ka lk kc) := row_cell g0 8 rfl
 have y9 : w0.cell? ⟨W.heap.size, 9, none⟩ = some (.slice va lw vc) := row_cell g0 9 rfl
 have y10 : w0.cell? ⟨W.heap.size, 10, none⟩ = some (.slice ca lc cc) := row_cell g0 10 rfl
 clear g0
 generalize s.id ra = id at *
 go_enter Tryz.func57, Tryz.ntmps57
 go_wp2_with fail
 rw [← HW.out]
 refine keep HID.out ?_
 go_wp2_with fail
 refine keep HPK.out ?_
 go_wp2_with fail
 go_region_held3 (fun W' => W'.cell? ⟨P, 0, none⟩ = some (.pointer (some ⟨AX, 0, none⟩)) ∧ W'.cell? ⟨P, 1, none⟩ = some (.pointer (some ⟨AY, 0, none⟩)) ∧ W'.cell? ⟨W.heap.size, 5, none⟩ = some (.int .i64 lv) ∧ W'.cell? ⟨W.heap.size, 6, none⟩ = some (.slice ha lh hc) ∧ W'.cell? ⟨W.heap.size, 7, none⟩ = some (.int .i64 ri)) (go_keep) (first
  | (go_at_call 104; refine (CY.out w1 _ A1.out U1.out).mono ?_; rintro e w2 ⟨rfl, hA, hU⟩; have A2 := hide hA; have U2 := hide (U1.out.trans hU); obtain ⟨f0, f1⟩ := hA.cells; have t5 := row_cell (HCE.out w2 U2.out) 5 rfl; have t6 := row_cell (HCE.out w2 U2.out) 6 rfl; have t7 := row_cell (HCE.out w2 U2.out) 7 rfl; clear hA hU)
  | (go_at_call 103; refine (CX.out w0.drew (HA0.out.below (below_drew (Below.refl _ _))) (HU0.out.drew)).mono ?_; rintro e w1 ⟨rfl, hA, hU⟩; have A1 := hide hA; have U1 : Hid (Upd (fun k => ¬ K' k) w0 w1) := ((Upd.refl _ w0).drew).trans hU; obtain ⟨d0, d1⟩ := hA.cells; have u5 := row_cell (HCE.out w1 U1.out) 5 rfl; have u6 := row_cell (HCE.out w1 U1.out) 6 rfl; have u7 := row_cell (HCE.out w1 U1.out) 7 rfl; clear hA hU)
  | fail)
 have HF := hide (HEND.out w2 _ A2.out U2.out)
 clear HEND d0 d1 f0 f1
 go_wp2_with fail
 go_ret
 have := HF.out
 simpa using this
set_option maxRecDepth 100000 in
set_option maxHeartbeats 3200000 in
theorem raw5 (h : AW K W P AX AY s s) (o : AOp) (ho : o.Ok K W) (hk : pickN o.kind 9 = 5) : Calls Tryz.prog 57 #[.pointer (some ⟨P, 0, none⟩), o.v] W (AwPost K W P AX AY (s.bodS (s.id o.a) o.n.ks.p o.n.vs.p o.n.cs.s)) := by
 obtain ⟨kd, ra, rb, rw', ch, n⟩ := o
 obtain ⟨⟨k1, k2⟩, ⟨a1, a2⟩, ⟨b1, b2⟩, w1, hn, hi⟩ := ho
 simp only at hk k1 k2 a1 a2 b1 b2 w1 hn hi
 simp only [AOp.v]
 have hid : s.id ra = ((pickN ra (s.sl.length + 2) : Nat) : Int) := rfl
 obtain ⟨w0, hw0⟩ : ∃ w0, w0 = W.alloc (.cells #[.int .i64 kd, .int .i64 ra, .int .i64 rb, .int .u64 (rw' : Nat), .bool ch, .int .i64 n.lv, n.hi.v, .int .i64 n.ri, n.ks.v, n.vs.v, n.cs.v] 131) := ⟨_, rfl⟩
 have b0 : Below W.heap.size W w0 := by rw [hw0]; exact (Below.refl _ _).alloc (Nat.le_refl _) _
 have z0 : w0.heap.size = W.heap.size + 1 := by rw [hw0]; simp
 have g0 : w0.heap[W.heap.size]? = some (.cells #[.int .i64 kd, .int .i64 ra, .int .i64 rb, .int .u64 (rw' : Nat), .bool ch, .int .i64 n.lv, n.hi.v, .int .i64 n.ri, n.ks.v, n.vs.v, n.cs.v] 131 (0, 0)) := by rw [hw0]; exact heap_alloc_new W _
 obtain ⟨K', hK'⟩ : ∃ K' : Nat → Prop, K' = fun k => K k ∨ k = W.heap.size := ⟨_, rfl⟩
 have hA0 : AW K' w0 P AX AY s s := h.more b0 (fun k hk => by rw [hK'] at hk; rcases hk with hk | hk; exact .inl hk; exact .inr (by omega)) (by rw [hK']; exact .inl h.kp)
 have hi0 : n.In K' := hi.mono (fun k hk => by rw [hK']; exact .inl hk)
 have kb : K' W.heap.size := by rw [hK']; exact .inr rfl
 have kk : ∀ k, K k → K' k := fun k hk => by rw [hK']; exact .inl hk
 have HEND : Hid (∀ w' u, AW K' w' P AX AY u u → Upd (fun k => ¬ K' k) w0 w' → AwPost K W P AX AY u (.returned (.bool true)) w') := fun w' u h1 h2 => ⟨rfl, h1.less kk h.kp, (kept_below b0).trans (kept_less h2 kk)⟩
 have HCE : Hid (∀ w', Upd (fun k => ¬ K' k) w0 w' → w'.heap[W.heap.size]? = some (.cells #[.int .i64 kd, .int .i64 ra, .int .i64 rb, .int .u64 (rw' : Nat), .bool ch, .int .i64 n.lv, n.hi.v, .int .i64 n.ri, n.ks.v, n.vs.v, n.cs.v] 131 (0, 0))) := fun w' hu => kept_heap hu g0 kb
 have HOK : Hid (∀ w', Upd (fun k => ¬ K' k) w0 w' → n.Ok w') := fun w' hu => (hn.below b0).kept hi0 hu
 have HIN := hide hi0
 have HU0 : Hid (Upd (fun k => ¬ K' k) w0 w0) := Upd.refl _ _
 have HID := hide (wid_any hA0 ra a1 a2)
 have HIDB := hide (wid_any hA0 rb b1 b2)
 have HPK := hide (pick_any kd 9 w0 (by decide) (by decide) k1 k2)
 rw [hk, show (((5 : Nat)) : Int) = 5 from rfl, show (((9 : Nat)) : Int) = 9 from rfl] at HPK
 have HLEN := hide hA0.len
 obtain ⟨c0, c1⟩ := hA0.cells
 rw [← hid] at HID
 have HA0 := hide hA0
 have HW := hide hw0
 clear h hn hi hK' hA0 hi0 kb kk b0 hw0 z0 k1 k2 hk hid
 have CX : Hid (∀ w', AW K' w' P AX AY s s → Upd (fun k => ¬ K' k) w0 w' → Calls Tryz.prog 53 #[.pointer (some ⟨AX, 0, none⟩), .int .i64 (s.id ra), .agg #[n.ks.v, n.vs.v, n.cs.v]] w' fun e w'' => e = .returned (.int .i64 (s.unlE (s.id ra))) ∧ AW K' w'' P AX AY (s.bodS (s.id ra) n.ks.p n.vs.p n.cs.s) s ∧ Upd (fun k => ¬ K' k) w' w'') := fun w' hw hu => hw.X (fun F hp => px_setB hp (s.id ra) n.ks n.vs n.cs (HOK.out w' hu).k (HOK.out w' hu).v (HOK.out w' hu).c (HOK.out w' hu).kz (HOK.out w' hu).vz (HOK.out w' hu).cz)
 have CY : Hid (∀ w' u, AW K' w' P AX AY u s → Upd (fun k => ¬ K' k) w0 w' → Calls Tryz.prog 105 #[.pointer (some ⟨AY, 0, none⟩), .int .i64 (s.id ra), .agg #[n.ks.v, n.vs.v, n.cs.v]] w' fun e w'' => e = .returned (.int .i64 (s.unlE (s.id ra))) ∧ AW K' w'' P AX AY u (s.bodS (s.id ra) n.ks.p n.vs.p n.cs.s) ∧ Upd (fun k => ¬ K' k) w' w'') := fun w' u hw hu => hw.Y (fun F hp => rx_setB hp (s.id ra) n.ks n.vs n.cs (HOK.out w' hu).k (HOK.out w' hu).v (HOK.out w' hu).c (HOK.out w' hu).kz (HOK.out w' hu).vz (HOK.out w' hu).cz)
 obtain ⟨lv, ⟨ha, hc, hs⟩, ri, ⟨ka, kc, KL⟩, ⟨va, vc, V⟩, ⟨ca, cc, C⟩⟩ := n
 simp only [Tx.v, TL.v, IL.v] at *
 generalize s.unlE (s.id ra) = ue at *
 generalize hs.length = lh at *
 generalize KL.length = lk at *
 generalize V.length = lw at *
 generalize C.length = lc at *
 have y0 : w0.cell? ⟨W.heap.size, 0, none⟩ = some (.int .i64 kd) := row_cell g0 0 rfl
 have y1 : w0.cell? ⟨W.heap.size, 1, none⟩ = some (.int .i64 ra) := row_cell g0 1 rfl
 have y2 : w0.cell? ⟨W.heap.size, 2, none⟩ = some (.int .i64 rb) := row_cell g0 2 rfl
 have y3 : w0.cell? ⟨W.heap.size, 3, none⟩ = some (.int .u64 (rw' : Nat)) := row_cell g0 3 rfl
 have y4 : w0.cell? ⟨W.heap.size, 4, none⟩ = some (.bool ch) := row_cell g0 4 rfl
 have y5 : w0.cell? ⟨W.heap.size, 5, none⟩ = some (.int .i64 lv) := row_cell g0 5 rfl
 have y6 : w0.cell? ⟨W.heap.size, 6, none⟩ = some (.slice ha lh hc) := row_cell g0 6 rfl
 have y7 : w0.cell? ⟨W.heap.size, 7, none⟩ = some (.int .i64 ri) := row_cell g0 7 rfl
 have y8 : w0.cell? ⟨W.heap.size, 8, none⟩ = some (.slice ka lk kc) := row_cell g0 8 rfl
 have y9 : w0.cell? ⟨W.heap.size, 9, none⟩ = some (.slice va lw vc) := row_cell g0 9 rfl
 have y10 : w0.cell? ⟨W.heap.size, 10, none⟩ = some (.slice ca lc cc) := row_cell g0 10 rfl
 clear g0
 generalize s.id ra = id at *
 go_enter Tryz.func57, Tryz.ntmps57
 go_wp2_with fail
 rw [← HW.out]
 refine keep HID.out ?_
 go_wp2_with fail
 refine keep HPK.out ?_
 go_wp2_with fail
 go_region_held3 (fun W' => W'.cell? ⟨P, 0, none⟩ = some (.pointer (some ⟨AX, 0, none⟩)) ∧ W'.cell? ⟨P, 1, none⟩ = some (.pointer (some ⟨AY, 0, none⟩)) ∧ W'.cell? ⟨W.heap.size, 8, none⟩ = some (.slice ka lk kc) ∧ W'.cell? ⟨W.heap.size, 9, none⟩ = some (.slice va lw vc) ∧ W'.cell? ⟨W.heap.size, 10, none⟩ = some (.slice ca lc cc)) (go_keep) (first
  | (go_at_call 105; refine (CY.out w1 _ A1.out U1.out).mono ?_; rintro e w2 ⟨rfl, hA, hU⟩; have A2 := hide hA; have U2 := hide (U1.out.trans hU); obtain ⟨f0, f1⟩ := hA.cells; have t8 := row_cell (HCE.out w2 U2.out) 8 rfl; have t9 := row_cell (HCE.out w2 U2.out) 9 rfl; have t10 := row_cell (HCE.out w2 U2.out) 10 rfl; clear hA hU)
  | (go_at_call 53; refine (CX.out w0.drew (HA0.out.below (below_drew (Below.refl _ _))) (HU0.out.drew)).mono ?_; rintro e w1 ⟨rfl, hA, hU⟩; have A1 := hide hA; have U1 : Hid (Upd (fun k => ¬ K' k) w0 w1) := ((Upd.refl _ w0).drew).trans hU; obtain ⟨d0, d1⟩ := hA.cells; have u8 := row_cell (HCE.out w1 U1.out) 8 rfl; have u9 := row_cell (HCE.out w1 U1.out) 9 rfl; have u10 := row_cell (HCE.out w1 U1.out) 10 rfl; clear hA hU)
  | fail)
 have HF := hide (HEND.out w2 _ A2.out U2.out)
 clear HEND d0 d1 f0 f1
 go_wp2_with fail
 go_ret
 have := HF.out
 simpa using this
end
end Go.Proofs.YtealejbfloacpaaGreat
namespace Go.Proofs.YtealejbfloacpaaGreat
open Go.RowKit
set_option maxRecDepth 100000
section
variable {K : Nat → Prop} {W : World} {P AX AY : Nat} {s : AS}
set_option maxRecDepth 100000 in
set_option maxHeartbeats 3200000 in
theorem raw6 (h : AW K W P AX AY s s) (o : AOp) (ho : o.Ok K W) (hk : pickN o.kind 9 = 6) : Calls Tryz.prog 57 #[.pointer (some ⟨P, 0, none⟩), o.v] W (AwPost K W P AX AY (s.groS (s.id o.a) (s.id o.b))) := by
 obtain ⟨kd, ra, rb, rw', ch, n⟩ := o
 obtain ⟨⟨k1, k2⟩, ⟨a1, a2⟩, ⟨b1, b2⟩, w1, hn, hi⟩ := ho
 simp only at hk k1 k2 a1 a2 b1 b2 w1 hn hi
 simp only [AOp.v]
 have hid : s.id ra = ((pickN ra (s.sl.length + 2) : Nat) : Int) := rfl
 obtain ⟨w0, hw0⟩ : ∃ w0, w0 = W.alloc (.cells #[.int .i64 kd, .int .i64 ra, .int .i64 rb, .int .u64 (rw' : Nat), .bool ch, .int .i64 n.lv, n.hi.v, .int .i64 n.ri, n.ks.v, n.vs.v, n.cs.v] 131) := ⟨_, rfl⟩
 have b0 : Below W.heap.size W w0 := by rw [hw0]; exact (Below.refl _ _).alloc (Nat.le_refl _) _
 have z0 : w0.heap.size = W.heap.size + 1 := by rw [hw0]; simp
 have g0 : w0.heap[W.heap.size]? = some (.cells #[.int .i64 kd, .int .i64 ra, .int .i64 rb, .int .u64 (rw' : Nat), .bool ch, .int .i64 n.lv, n.hi.v, .int .i64 n.ri, n.ks.v, n.vs.v, n.cs.v] 131 (0, 0)) := by rw [hw0]; exact heap_alloc_new W _
 obtain ⟨K', hK'⟩ : ∃ K' : Nat → Prop, K' = fun k => K k ∨ k = W.heap.size := ⟨_, rfl⟩
 have hA0 : AW K' w0 P AX AY s s := h.more b0 (fun k hk => by rw [hK'] at hk; rcases hk with hk | hk; exact .inl hk; exact .inr (by omega)) (by rw [hK']; exact .inl h.kp)
 have hi0 : n.In K' := hi.mono (fun k hk => by rw [hK']; exact .inl hk)
 have kb : K' W.heap.size := by rw [hK']; exact .inr rfl
 have kk : ∀ k, K k → K' k := fun k hk => by rw [hK']; exact .inl hk
 have HEND : Hid (∀ w' u, AW K' w' P AX AY u u → Upd (fun k => ¬ K' k) w0 w' → AwPost K W P AX AY u (.returned (.bool true)) w') := fun w' u h1 h2 => ⟨rfl, h1.less kk h.kp, (kept_below b0).trans (kept_less h2 kk)⟩
 have HCE : Hid (∀ w', Upd (fun k => ¬ K' k) w0 w' → w'.heap[W.heap.size]? = some (.cells #[.int .i64 kd, .int .i64 ra, .int .i64 rb, .int .u64 (rw' : Nat), .bool ch, .int .i64 n.lv, n.hi.v, .int .i64 n.ri, n.ks.v, n.vs.v, n.cs.v] 131 (0, 0))) := fun w' hu => kept_heap hu g0 kb
 have HOK : Hid (∀ w', Upd (fun k => ¬ K' k) w0 w' → n.Ok w') := fun w' hu => (hn.below b0).kept hi0 hu
 have HIN := hide hi0
 have HU0 : Hid (Upd (fun k => ¬ K' k) w0 w0) := Upd.refl _ _
 have HID := hide (wid_any hA0 ra a1 a2)
 have HIDB := hide (wid_any hA0 rb b1 b2)
 have HPK := hide (pick_any kd 9 w0 (by decide) (by decide) k1 k2)
 rw [hk, show (((6 : Nat)) : Int) = 6 from rfl, show (((9 : Nat)) : Int) = 9 from rfl] at HPK
 have HLEN := hide hA0.len
 obtain ⟨c0, c1⟩ := hA0.cells
 rw [← hid] at HID
 have HA0 := hide hA0
 have HW := hide hw0
 clear h hn hi hK' hA0 hi0 kb kk b0 hw0 z0 k1 k2 hk hid
 rw [show ((pickN rb (s.sl.length + 2) : Nat) : Int) = s.id rb from rfl] at HIDB
 have GX := hide (HA0.out.X (fun F hp => px_grow hp (s.id ra) (s.id rb)))
 have GY : Hid (∀ w' u, AW K' w' P AX AY u s → Calls Tryz.prog 107 #[.pointer (some ⟨AY, 0, none⟩), .int .i64 (s.id ra), .int .i64 (s.id rb)] w' fun e w'' => e = .returned (.tuple #[.bool (s.groB (s.id ra) (s.id rb)), .int .i64 (s.wordE (s.id rb))]) ∧ AW K' w'' P AX AY u (s.groS (s.id ra) (s.id rb)) ∧ Upd (fun k => ¬ K' k) w' w'') := fun w' u hw => hw.Y (fun F hp => rx_grow hp (s.id ra) (s.id rb))
 obtain ⟨lv, ⟨ha, hc, hs⟩, ri, ⟨ka, kc, KL⟩, ⟨va, vc, V⟩, ⟨ca, cc, C⟩⟩ := n
 simp only [Tx.v, TL.v, IL.v] at *
 generalize hs.length = lh at *
 generalize KL.length = lk at *
 generalize V.length = lw at *
 generalize C.length = lc at *
 generalize s.groB (s.id ra) (s.id rb) = gb at *
 generalize s.wordE (s.id rb) = ge at *
 generalize s.groS (s.id ra) (s.id rb) = gs at *
 generalize s.id rb = idb at *
 have y0 : w0.cell? ⟨W.heap.size, 0, none⟩ = some (.int .i64 kd) := row_cell g0 0 rfl
 have y1 : w0.cell? ⟨W.heap.size, 1, none⟩ = some (.int .i64 ra) := row_cell g0 1 rfl
 have y2 : w0.cell? ⟨W.heap.size, 2, none⟩ = some (.int .i64 rb) := row_cell g0 2 rfl
 have y3 : w0.cell? ⟨W.heap.size, 3, none⟩ = some (.int .u64 (rw' : Nat)) := row_cell g0 3 rfl
 have y4 : w0.cell? ⟨W.heap.size, 4, none⟩ = some (.bool ch) := row_cell g0 4 rfl
 have y5 : w0.cell? ⟨W.heap.size, 5, none⟩ = some (.int .i64 lv) := row_cell g0 5 rfl
 have y6 : w0.cell? ⟨W.heap.size, 6, none⟩ = some (.slice ha lh hc) := row_cell g0 6 rfl
 have y7 : w0.cell? ⟨W.heap.size, 7, none⟩ = some (.int .i64 ri) := row_cell g0 7 rfl
 have y8 : w0.cell? ⟨W.heap.size, 8, none⟩ = some (.slice ka lk kc) := row_cell g0 8 rfl
 have y9 : w0.cell? ⟨W.heap.size, 9, none⟩ = some (.slice va lw vc) := row_cell g0 9 rfl
 have y10 : w0.cell? ⟨W.heap.size, 10, none⟩ = some (.slice ca lc cc) := row_cell g0 10 rfl
 clear g0
 generalize s.id ra = id at *
 go_enter Tryz.func57, Tryz.ntmps57
 go_wp2_with fail
 rw [← HW.out]
 refine keep HID.out ?_
 go_wp2_with fail
 refine keep HPK.out ?_
 go_wp2_with fail
 refine keep HIDB.out ?_
 go_wp2_with fail
 refine GX.out.mono ?_
 rintro e w1 ⟨rfl, hA, hU⟩
 obtain ⟨d0, d1⟩ := hA.cells
 have AY1 := hide (GY.out w1 _ hA)
 have U1 := hide hU
 clear hA hU c0 c1
 go_wp2_with fail
 refine AY1.out.mono ?_
 rintro e w2 ⟨rfl, hA, hU⟩
 have HF := hide (HEND.out w2 _ hA (U1.out.trans hU))
 clear hA hU HEND
 go_wp2_with fail
 go_ret
 have := HF.out
 simpa using this
set_option maxRecDepth 100000 in
set_option maxHeartbeats 3200000 in
theorem raw8 (h : AW K W P AX AY s s) (o : AOp) (ho : o.Ok K W) (hk : pickN o.kind 9 = 8) : Calls Tryz.prog 57 #[.pointer (some ⟨P, 0, none⟩), o.v] W (AwPost K W P AX AY (s.lockS (s.id o.a) o.w)) := by
 obtain ⟨kd, ra, rb, rw', ch, n⟩ := o
 obtain ⟨⟨k1, k2⟩, ⟨a1, a2⟩, ⟨b1, b2⟩, w1, hn, hi⟩ := ho
 simp only at hk k1 k2 a1 a2 b1 b2 w1 hn hi
 simp only [AOp.v]
 have hid : s.id ra = ((pickN ra (s.sl.length + 2) : Nat) : Int) := rfl
 obtain ⟨w0, hw0⟩ : ∃ w0, w0 = W.alloc (.cells #[.int .i64 kd, .int .i64 ra, .int .i64 rb, .int .u64 (rw' : Nat), .bool ch, .int .i64 n.lv, n.hi.v, .int .i64 n.ri, n.ks.v, n.vs.v, n.cs.v] 131) := ⟨_, rfl⟩
 have b0 : Below W.heap.size W w0 := by rw [hw0]; exact (Below.refl _ _).alloc (Nat.le_refl _) _
 have z0 : w0.heap.size = W.heap.size + 1 := by rw [hw0]; simp
 have g0 : w0.heap[W.heap.size]? = some (.cells #[.int .i64 kd, .int .i64 ra, .int .i64 rb, .int .u64 (rw' : Nat), .bool ch, .int .i64 n.lv, n.hi.v, .int .i64 n.ri, n.ks.v, n.vs.v, n.cs.v] 131 (0, 0)) := by rw [hw0]; exact heap_alloc_new W _
 obtain ⟨K', hK'⟩ : ∃ K' : Nat → Prop, K' = fun k => K k ∨ k = W.heap.size := ⟨_, rfl⟩
 have hA0 : AW K' w0 P AX AY s s := h.more b0 (fun k hk => by rw [hK'] at hk; rcases hk with hk | hk; exact .inl hk; exact .inr (by omega)) (by rw [hK']; exact .inl h.kp)
 have hi0 : n.In K' := hi.mono (fun k hk => by rw [hK']; exact .inl hk)
 have kb : K' W.heap.size := by rw [hK']; exact .inr rfl
 have kk : ∀ k, K k → K' k := fun k hk => by rw [hK']; exact .inl hk
 have HEND : Hid (∀ w' u, AW K' w' P AX AY u u → Upd (fun k => ¬ K' k) w0 w' → AwPost K W P AX AY u (.returned (.bool true)) w') := fun w' u h1 h2 => ⟨rfl, h1.less kk h.kp, (kept_below b0).trans (kept_less h2 kk)⟩
 have HCE : Hid (∀ w', Upd (fun k => ¬ K' k) w0 w' → w'.heap[W.heap.size]? = some (.cells #[.int .i64 kd, .int .i64 ra, .int .i64 rb, .int .u64 (rw' : Nat), .bool ch, .int .i64 n.lv, n.hi.v, .int .i64 n.ri, n.ks.v, n.vs.v, n.cs.v] 131 (0, 0))) := fun w' hu => kept_heap hu g0 kb
 have HOK : Hid (∀ w', Upd (fun k => ¬ K' k) w0 w' → n.Ok w') := fun w' hu => (hn.below b0).kept hi0 hu
 have HIN := hide hi0
 have HU0 : Hid (Upd (fun k => ¬ K' k) w0 w0) := Upd.refl _ _
 have HID := hide (wid_any hA0 ra a1 a2)
 have HIDB := hide (wid_any hA0 rb b1 b2)
 have HPK := hide (pick_any kd 9 w0 (by decide) (by decide) k1 k2)
 rw [hk, show (((8 : Nat)) : Int) = 8 from rfl, show (((9 : Nat)) : Int) = 9 from rfl] at HPK
 have HLEN := hide hA0.len
 obtain ⟨c0, c1⟩ := hA0.cells
 rw [← hid] at HID
 have HA0 := hide hA0
 have HW := hide hw0
 clear h hn hi hK' hA0 hi0 kb kk b0 hw0 z0 k1 k2 hk hid
 have LCK := hide (wlock_any HA0.out (s.id ra) rw' w1)
 obtain ⟨lv, ⟨ha, hc, hs⟩, ri, ⟨ka, kc, KL⟩, ⟨va, vc, V⟩, ⟨ca, cc, C⟩⟩ := n
 simp only [Tx.v, TL.v, IL.v] at *
 generalize hs.length = lh at *
 generalize KL.length = lk at *
 generalize V.length = lw at *
 generalize C.length = lc at *
 have y0 : w0.cell? ⟨W.heap.size, 0, none⟩ = some (.int .i64 kd) := row_cell g0 0 rfl
 have y1 : w0.cell? ⟨W.heap.size, 1, none⟩ = some (.int .i64 ra) := row_cell g0 1 rfl
 have y2 : w0.cell? ⟨W.heap.size, 2, none⟩ = some (.int .i64 rb) := row_cell g0 2 rfl
 have y3 : w0.cell? ⟨W.heap.size, 3, none⟩ = some (.int .u64 (rw' : Nat)) := row_cell g0 3 rfl
 have y4 : w0.cell? ⟨W.heap.size, 4, none⟩ = some (.bool ch) := row_cell g0 4 rfl
 have y5 : w0.cell? ⟨W.heap.size, 5, none⟩ = some (.int .i64 lv) := row_cell g0 5 rfl
 have y6 : w0.cell? ⟨W.heap.size, 6, none⟩ = some (.slice ha lh hc) := row_cell g0 6 rfl
 have y7 : w0.cell? ⟨W.heap.size, 7, none⟩ = some (.int .i64 ri) := row_cell g0 7 rfl
 have y8 : w0.cell? ⟨W.heap.size, 8, none⟩ = some (.slice ka lk kc) := row_cell g0 8 rfl
 have y9 : w0.cell? ⟨W.heap.size, 9, none⟩ = some (.slice va lw vc) := row_cell g0 9 rfl
 have y10 : w0.cell? ⟨W.heap.size, 10, none⟩ = some (.slice ca lc cc) := row_cell g0 10 rfl
 clear g0
 generalize s.id ra = id at *
 go_enter Tryz.func57, Tryz.ntmps57
 go_wp2_with fail
 rw [← HW.out]
 refine keep HID.out ?_
 go_wp2_with fail
 refine keep HPK.out ?_
 go_wp2_with fail
 refine LCK.out.mono ?_
 rintro e w2 ⟨rfl, hA, hU⟩
 have HF := hide (HEND.out w2 _ hA hU)
 clear hA hU HEND
 go_wp2_with fail
 go_ret
 exact HF.out
end
end Go.Proofs.YtealejbfloacpaaGreat
namespace Go.Proofs.YtealejbfloacpaaGreat
open Go.RowKit
set_option maxRecDepth 100000
section
variable {K : Nat → Prop} {W : World} {P AX AY : Nat} {s : AS}
set_option maxRecDepth 100000 in
set_option maxHeartbeats 3200000 in
theorem raw7 (h : AW K W P AX AY s s) (o : AOp) (ho : o.Ok K W) (hk : pickN o.kind 9 = 7) : Calls Tryz.prog 57 #[.pointer (some ⟨P, 0, none⟩), o.v] W (AwPost K W P AX AY (s.layS (1 + ((pickN o.a (s.sl.length + 1) : Nat) : Int)) o.n.p)) := by
 obtain ⟨kd, ra, rb, rw', ch, n⟩ := o
 obtain ⟨⟨k1, k2⟩, ⟨a1, a2⟩, ⟨b1, b2⟩, w1, hn, hi⟩ := ho
 simp only at hk k1 k2 a1 a2 b1 b2 w1 hn hi
 simp only [AOp.v]
 have hid : s.id ra = ((pickN ra (s.sl.length + 2) : Nat) : Int) := rfl
 obtain ⟨w0, hw0⟩ : ∃ w0, w0 = W.alloc (.cells #[.int .i64 kd, .int .i64 ra, .int .i64 rb, .int .u64 (rw' : Nat), .bool ch, .int .i64 n.lv, n.hi.v, .int .i64 n.ri, n.ks.v, n.vs.v, n.cs.v] 131) := ⟨_, rfl⟩
 have b0 : Below W.heap.size W w0 := by rw [hw0]; exact (Below.refl _ _).alloc (Nat.le_refl _) _
 have z0 : w0.heap.size = W.heap.size + 1 := by rw [hw0]; simp
 have g0 : w0.heap[W.heap.size]? = some (.cells #[.int .i64 kd, .int .i64 ra, .int .i64 rb, .int .u64 (rw' : Nat), .bool ch, .int .i64 n.lv, n.hi.v, .int .i64 n.ri, n.ks.v, n.vs.v, n.cs.v] 131 (0, 0)) := by rw [hw0]; exact heap_alloc_new W _
 obtain ⟨K', hK'⟩ : ∃ K' : Nat → Prop, K' = fun k => K k ∨ k = W.heap.size := ⟨_, rfl⟩
 have hA0 : AW K' w0 P AX AY s s := h.more b0 (fun k hk => by rw [hK'] at hk; rcases hk with hk | hk; exact .inl hk; exact .inr (by omega)) (by rw [hK']; exact .inl h.kp)
 have hi0 : n.In K' := hi.mono (fun k hk => by rw [hK']; exact .inl hk)
 have kb : K' W.heap.size := by rw [hK']; exact .inr rfl
 have kk : ∀ k, K k → K' k := fun k hk => by rw [hK']; exact .inl hk
 have HEND : Hid (∀ w' u, AW K' w' P AX AY u u → Upd (fun k => ¬ K' k) w0 w' → AwPost K W P AX AY u (.returned (.bool true)) w') := fun w' u h1 h2 => ⟨rfl, h1.less kk h.kp, (kept_below b0).trans (kept_less h2 kk)⟩
 have HCE : Hid (∀ w', Upd (fun k => ¬ K' k) w0 w' → w'.heap[W.heap.size]? = some (.cells #[.int .i64 kd, .int .i64 ra, .int .i64 rb, .int .u64 (rw' : Nat), .bool ch, .int .i64 n.lv, n.hi.v, .int .i64 n.ri, n.ks.v, n.vs.v, n.cs.v] 131 (0, 0))) := fun w' hu => kept_heap hu g0 kb
 have HOK : Hid (∀ w', Upd (fun k => ¬ K' k) w0 w' → n.Ok w') := fun w' hu => (hn.below b0).kept hi0 hu
 have HIN := hide hi0
 have HU0 : Hid (Upd (fun k => ¬ K' k) w0 w0) := Upd.refl _ _
 have HID := hide (wid_any hA0 ra a1 a2)
 have HIDB := hide (wid_any hA0 rb b1 b2)
 have HPK := hide (pick_any kd 9 w0 (by decide) (by decide) k1 k2)
 rw [hk, show (((7 : Nat)) : Int) = 7 from rfl, show (((9 : Nat)) : Int) = 9 from rfl] at HPK
 have HLEN := hide hA0.len
 obtain ⟨c0, c1⟩ := hA0.cells
 rw [← hid] at HID
 have HA0 := hide hA0
 have HW := hide hw0
 clear h hn hi hK' hA0 hi0 kb kk b0 hw0 z0 k1 k2 hk hid
 have hll := HLEN.out.1
 have UY : Hid (∀ w', AW K' w' P AX AY s s → Calls Tryz.prog 17 #[.pointer (some ⟨AY, 0, none⟩)] w' fun e w'' => e = .returned (.int .i64 (s.sl.length : Nat)) ∧ w'' = w') := fun w' hw => aw_usedY hw
 have PK : Hid (∀ w', Calls Tryz.prog 97 #[.int .i64 ra, .int .i64 ((s.sl.length : Int) + 1)] w' fun e w'' => e = .returned (.int .i64 (pickN ra (s.sl.length + 1) : Nat)) ∧ w'' = w') := fun w' => pick_any ra (s.sl.length + 1) w' (by omega) (by omega) a1 a2
 have hpl := pickN_lt ra (s.sl.length + 1) (by omega)
 have LAY : Hid (∀ w', AW K' w' P AX AY s s → Upd (fun k => ¬ K' k) w0 w' → Calls Tryz.prog 108 #[.pointer (some ⟨P, 0, none⟩), .int .i64 (1 + ((pickN ra (s.sl.length + 1) : Nat) : Int)), n.v] w' (AwPost K' w' P AX AY (s.layS (1 + ((pickN ra (s.sl.length + 1) : Nat) : Int)) n.p))) := fun w' hw hu => wlay_any hw _ n (HOK.out w' hu) HIN.out
 obtain ⟨lv, ⟨ha, hc, hs⟩, ri, ⟨ka, kc, KL⟩, ⟨va, vc, V⟩, ⟨ca, cc, C⟩⟩ := n
 simp only [Nd.v, Tx.v, TL.v, IL.v] at *
 generalize hs.length = lh at *
 generalize KL.length = lk at *
 generalize V.length = lw at *
 generalize C.length = lc at *
 generalize s.layS (1 + ((pickN ra (s.sl.length + 1) : Nat) : Int)) (Nd.p ⟨lv, ⟨ha, hc, hs⟩, ri, ⟨ka, kc, KL⟩, ⟨va, vc, V⟩, ⟨ca, cc, C⟩⟩) = ls at *
 generalize pickN ra (s.sl.length + 1) = pl at *
 generalize s.sl.length = ll at *
 have j1 : IntKind.i64.wrap ((ll : Int) + 1) = (ll : Int) + 1 := by rw [IntKind.wrap_i64]; omega
 have j2 : IntKind.i64.wrap (1 + (pl : Int)) = 1 + (pl : Int) := by rw [IntKind.wrap_i64]; omega
 have y0 : w0.cell? ⟨W.heap.size, 0, none⟩ = some (.int .i64 kd) := row_cell g0 0 rfl
 have y1 : w0.cell? ⟨W.heap.size, 1, none⟩ = some (.int .i64 ra) := row_cell g0 1 rfl
 have y2 : w0.cell? ⟨W.heap.size, 2, none⟩ = some (.int .i64 rb) := row_cell g0 2 rfl
 have y3 : w0.cell? ⟨W.heap.size, 3, none⟩ = some (.int .u64 (rw' : Nat)) := row_cell g0 3 rfl
 have y4 : w0.cell? ⟨W.heap.size, 4, none⟩ = some (.bool ch) := row_cell g0 4 rfl
 have y5 : w0.cell? ⟨W.heap.size, 5, none⟩ = some (.int .i64 lv) := row_cell g0 5 rfl
 have y6 : w0.cell? ⟨W.heap.size, 6, none⟩ = some (.slice ha lh hc) := row_cell g0 6 rfl
 have y7 : w0.cell? ⟨W.heap.size, 7, none⟩ = some (.int .i64 ri) := row_cell g0 7 rfl
 have y8 : w0.cell? ⟨W.heap.size, 8, none⟩ = some (.slice ka lk kc) := row_cell g0 8 rfl
 have y9 : w0.cell? ⟨W.heap.size, 9, none⟩ = some (.slice va lw vc) := row_cell g0 9 rfl
 have y10 : w0.cell? ⟨W.heap.size, 10, none⟩ = some (.slice ca lc cc) := row_cell g0 10 rfl
 clear g0
 generalize s.id ra = id at *
 go_enter Tryz.func57, Tryz.ntmps57
 go_wp2_with fail
 rw [← HW.out]
 refine keep HID.out ?_
 go_wp2_with fail
 refine keep HPK.out ?_
 go_wp2_with fail
 go_region_held3 (fun W' => W'.cell? ⟨P, 1, none⟩ = some (.pointer (some ⟨AY, 0, none⟩)) ∧ W'.cell? ⟨W.heap.size, 1, none⟩ = some (.int .i64 ra) ∧ W'.cell? ⟨W.heap.size, 5, none⟩ = some (.int .i64 lv) ∧ W'.cell? ⟨W.heap.size, 6, none⟩ = some (.slice ha lh hc) ∧ W'.cell? ⟨W.heap.size, 7, none⟩ = some (.int .i64 ri) ∧ W'.cell? ⟨W.heap.size, 8, none⟩ = some (.slice ka lk kc) ∧ W'.cell? ⟨W.heap.size, 9, none⟩ = some (.slice va lw vc) ∧ W'.cell? ⟨W.heap.size, 10, none⟩ = some (.slice ca lc cc)) (go_keep) (first
  | (go_at_call 108; refine (LAY.out w0.drew (HA0.out.below (below_drew (Below.refl _ _))) (HU0.out.drew)).mono ?_; rintro e w2 ⟨rfl, hA, hU⟩; have A2 := hide hA; have U2 : Hid (Upd (fun k => ¬ K' k) w0 w2) := ((Upd.refl _ w0).drew).trans hU; obtain ⟨f0, f1⟩ := hA.cells; have t1 := row_cell (HCE.out w2 U2.out) 1 rfl; have t5 := row_cell (HCE.out w2 U2.out) 5 rfl; have t6 := row_cell (HCE.out w2 U2.out) 6 rfl; have t7 := row_cell (HCE.out w2 U2.out) 7 rfl; have t8 := row_cell (HCE.out w2 U2.out) 8 rfl; have t9 := row_cell (HCE.out w2 U2.out) 9 rfl; have t10 := row_cell (HCE.out w2 U2.out) 10 rfl; clear hA hU)
  | (go_at_call 97; refine keep (PK.out w0.drew) ?_)
  | (go_at_call 17; refine keep (UY.out w0.drew (HA0.out.below (below_drew (Below.refl _ _)))) ?_)
  | fail)
 have HF := hide (HEND.out w2 _ A2.out U2.out)
 clear HEND f0 f1
 go_wp2_with fail
 go_ret
 exact HF.out
end
end Go.Proofs.YtealejbfloacpaaGreat
namespace Go.Proofs.YtealejbfloacpaaGreat
open Go.RowKit
set_option maxRecDepth 100000
theorem raw_any {K : Nat → Prop} {W : World} {P AX AY : Nat} {s : AS} (h : AW K W P AX AY s s) (o : AOp) (ho : o.Ok K W) : Calls Tryz.prog 57 #[.pointer (some ⟨P, 0, none⟩), o.v] W (AwPost K W P AX AY (s.raw o)) := by
 have hlt := pickN_lt o.kind 9 (by decide)
 unfold AS.raw
 by_cases h0 : pickN o.kind 9 = 0
 ·rw [if_pos h0]; exact raw0 h o ho h0
 rw [if_neg h0]
 by_cases h1 : pickN o.kind 9 = 1
 ·rw [if_pos h1]; exact raw1 h o ho h1
 rw [if_neg h1]
 by_cases h2 : pickN o.kind 9 = 2
 ·rw [if_pos h2]; exact raw2 h o ho h2
 rw [if_neg h2]
 by_cases h3 : pickN o.kind 9 = 3
 ·rw [if_pos h3]; exact raw3 h o ho h3
 rw [if_neg h3]
 by_cases h4 : pickN o.kind 9 = 4
 ·rw [if_pos h4]; exact raw4 h o ho h4
 rw [if_neg h4]
 by_cases h5 : pickN o.kind 9 = 5
 ·rw [if_pos h5]; exact raw5 h o ho h5
 rw [if_neg h5]
 by_cases h6 : pickN o.kind 9 = 6
 ·rw [if_pos h6]; exact raw6 h o ho h6
 rw [if_neg h6]
 by_cases h7 : pickN o.kind 9 = 7
 ·rw [if_pos h7]; exact raw7 h o ho h7
 rw [if_neg h7]
 exact raw8 h o ho (by omega)
end Go.Proofs.YtealejbfloacpaaGreat
namespace Go.Proofs.YtealejbfloacpaaGreat
open Go.RowKit
set_option maxRecDepth 100000
theorem AS.setw_len (s : AS) (id : Int) (x : Nat) : (s.setw id x).sl.length = s.sl.length := by simp [AS.setw]
theorem AS.setw_inn {s : AS} {id id' : Int} {x : Nat} (h : s.inn id) : (s.setw id' x).inn id := by unfold AS.inn at *; rw [AS.setw_len]; exact h
theorem AS.setw_w {s : AS} {id : Int} {x : Nat} (h : s.inn id) : (s.setw id x).w id = x := by
 obtain ⟨i, hi, _, e⟩ := AS.idx h
 unfold AS.w AS.setw
 simp only [e]
 rw [List.getD_eq_getElem?_getD, List.getElem?_set_self hi]
 rfl
theorem took_held {s : AS} {id : Int} (h : s.inn id) : (s.lockS id (s.w id)).inn id ∧ (s.lockS id (s.w id)).w id = (if s.w id % 2 = 0 then s.w id + 1 else s.w id) ∧ s.lockB id (s.w id) = decide (s.w id % 2 = 0) := by
 by_cases hx : s.w id % 2 = 0
 ·rw [show s.lockS id (s.w id) = s.setw id (s.w id + 1) from if_pos ⟨h, rfl, hx⟩, if_pos hx]
  exact ⟨AS.setw_inn h, AS.setw_w h, by unfold AS.lockB; rw [decide_eq_true ⟨h, rfl, hx⟩, decide_eq_true hx]⟩
 ·rw [show s.lockS id (s.w id) = s from if_neg (fun e => hx e.2.2), if_neg hx]
  exact ⟨h, rfl, by unfold AS.lockB; rw [decide_eq_false (fun e => hx e.2.2), decide_eq_false hx]⟩
theorem unl_held {s : AS} {id : Int} (h : s.inn id) (ho : s.w id % 2 = 1) (ch : Bool) : s.unlE id = 0 ∧ s.unlS id ch = s.setw id (freeW (s.w id) ch) := by
 have hE : s.unlE id = 0 := by unfold AS.unlE; rw [if_pos h, if_neg (by omega)]
 exact ⟨hE, if_pos hE⟩
end Go.Proofs.YtealejbfloacpaaGreat
namespace Go.Proofs.YtealejbfloacpaaGreat
open Go.RowKit
set_option maxRecDepth 100000
theorem AS.idx_ne {s : AS} {j k : Int} (hj : s.inn j) (hk : s.inn k) (h : j ≠ k) : (j - 1).toNat ≠ (k - 1).toNat := by unfold AS.inn at *; omega
theorem AS.n_setw {s : AS} {k : Int} (hk : s.inn k) (x : Nat) (j : Int) : (s.setw k x).n j = s.n j := by
 obtain ⟨i, hi, _, e⟩ := AS.idx hk
 unfold AS.n AS.setw
 simp only [e]
 by_cases h : (j - 1).toNat = i
 ·rw [h, List.getD_eq_getElem?_getD, List.getElem?_set_self hi]
  unfold AS.n
  rw [e]; rfl
 ·rw [List.getD_eq_getElem?_getD, List.getElem?_set_ne (fun e => h e.symm), ← List.getD_eq_getElem?_getD]
theorem AS.n_setn {s : AS} {k : Int} (hk : s.inn k) (p : NP) {j : Int} (hj : s.inn j) : (s.setn k p).n j = if j = k then p else s.n j := by
 obtain ⟨i, hi, _, e⟩ := AS.idx hk
 unfold AS.n AS.setn
 simp only [e]
 by_cases h : j = k
 ·rw [if_pos h, h, e, List.getD_eq_getElem?_getD, List.getElem?_set_self hi]
  rfl
 ·have hne := AS.idx_ne hj hk h
  rw [e] at hne
  rw [if_neg h, List.getD_eq_getElem?_getD, List.getElem?_set_ne (fun e => hne e.symm), ← List.getD_eq_getElem?_getD]
theorem AS.w_setn {s : AS} {k : Int} (hk : s.inn k) (p : NP) (j : Int) : (s.setn k p).w j = s.w j := by
 obtain ⟨i, hi, _, e⟩ := AS.idx hk
 unfold AS.w AS.setn
 simp only [e]
 by_cases h : (j - 1).toNat = i
 ·rw [h, List.getD_eq_getElem?_getD, List.getElem?_set_self hi]
  unfold AS.w
  rw [e]; rfl
 ·rw [List.getD_eq_getElem?_getD, List.getElem?_set_ne (fun e => h e.symm), ← List.getD_eq_getElem?_getD]
theorem AS.setn_len (s : AS) (k : Int) (p : NP) : (s.setn k p).sl.length = s.sl.length := by simp [AS.setn]
theorem AS.inn_of_len {s t : AS} (h : t.sl.length = s.sl.length) (j : Int) : t.inn j ↔ s.inn j := by unfold AS.inn; rw [h]
structure SetBoth (s s2 s3 s4 : AS) (k : Int) (p : NP) : Prop where
 e2 : s2.unlE k = 0
 e3 : s3.unlE k = 0
 len : s4.sl.length = s.sl.length
 root : s4.root = s.root
 rd : ∀ j, s.inn j → s4.rd j = if j = k then p else s.n j
theorem set_both {s : AS} {k : Int} (hk : s.inn k) (p : NP) : SetBoth s (s.lockS k (s.w k)) ((s.lockS k (s.w k)).hedS k p.lv p.hi p.ri) (((s.lockS k (s.w k)).hedS k p.lv p.hi p.ri).bodS k p.ks p.vs p.cs) k p := by
 obtain ⟨t1, t2, _⟩ := took_held hk
 have hodd : (s.lockS k (s.w k)).w k % 2 = 1 := by rw [t2]; split <;> omega
 have hl2 : (s.lockS k (s.w k)).sl.length = s.sl.length := by unfold AS.lockS; split; exact AS.setw_len _ _ _; rfl
 have hr2 : (s.lockS k (s.w k)).root = s.root := by unfold AS.lockS; split <;> rfl
 have hn2 : ∀ j, (s.lockS k (s.w k)).n j = s.n j := fun j => by unfold AS.lockS; split; exact AS.n_setw hk _ j; rfl
 generalize s.lockS k (s.w k) = s2 at *
 have e2 : s2.unlE k = 0 := by unfold AS.unlE; rw [if_pos t1, if_neg (by omega)]
 have h3 : s2.hedS k p.lv p.hi p.ri = s2.setn k ((s2.n k).setH p.lv p.hi p.ri) := if_pos e2
 rw [h3]
 have t3 : (s2.setn k ((s2.n k).setH p.lv p.hi p.ri)).inn k := (AS.inn_of_len (AS.setn_len _ _ _) k).2 t1
 have e3 : (s2.setn k ((s2.n k).setH p.lv p.hi p.ri)).unlE k = 0 := by unfold AS.unlE; rw [if_pos t3, if_neg (by rw [AS.w_setn t1]; omega)]
 have h4 : (s2.setn k ((s2.n k).setH p.lv p.hi p.ri)).bodS k p.ks p.vs p.cs = (s2.setn k ((s2.n k).setH p.lv p.hi p.ri)).setn k (((s2.setn k ((s2.n k).setH p.lv p.hi p.ri)).n k).setB p.ks p.vs p.cs) := if_pos e3
 rw [h4]
 refine ⟨e2, e3, by rw [AS.setn_len, AS.setn_len]; exact hl2, hr2, fun j hj => ?_⟩
 have hj2 : s2.inn j := (AS.inn_of_len hl2 j).2 hj
 have hj3 : (s2.setn k ((s2.n k).setH p.lv p.hi p.ri)).inn j := (AS.inn_of_len (AS.setn_len _ _ _) j).2 hj2
 unfold AS.rd
 rw [if_pos ((AS.inn_of_len (AS.setn_len _ _ _) j).2 hj3), AS.n_setn t3 _ hj3]
 by_cases h : j = k
 ·rw [if_pos h, if_pos h, AS.n_setn t1 _ t1, if_pos rfl]
  rfl
 ·rw [if_neg h, if_neg h, AS.n_setn t1 _ hj2, if_neg h, hn2]
def Six' (W : World) (b o : Nat) (n : Nd) : Prop := W.cell? ⟨b, o, none⟩ = some (.int .i64 n.lv) ∧ W.cell? ⟨b, o + 1, none⟩ = some n.hi.v ∧ W.cell? ⟨b, o + 2, none⟩ = some (.int .i64 n.ri) ∧ W.cell? ⟨b, o + 3, none⟩ = some n.ks.v ∧ W.cell? ⟨b, o + 4, none⟩ = some n.vs.v ∧ W.cell? ⟨b, o + 5, none⟩ = some n.cs.v
theorem AW.slots {K : Nat → Prop} {W : World} {P AX AY : Nat} {s t : AS} (h : AW K W P AX AY s t) : ∃ g c, W.cell? ⟨AY, 1, none⟩ = some (.slice (some ⟨g, 0, none⟩) t.sl.length c) ∧ ∀ i : Nat, i < t.sl.length → ∃ n : Nd, n.Ok W ∧ n.p = t.n ((i : Int) + 1) ∧ Six' W g (i * 7 + 1) n := by
 obtain ⟨F, g, c, M, D, L, h1, h2, _⟩ := h.rx
 refine ⟨g, c, by rw [← ndsR_lenS h2]; exact h1.cells.2.1, fun i hi => ?_⟩
 have hi' : i < L.length := by rw [ndsR_lenS h2]; exact hi
 exact ⟨L[i].n, (h1.sl L[i] (List.getElem_mem hi')).n, ((ndsR_at h2 hi' rfl).2).symm, h1.ncells i hi'⟩
end Go.Proofs.YtealejbfloacpaaGreat
namespace Go.Proofs.YtealejbfloacpaaGreat
open Go.RowKit
set_option maxRecDepth 100000
theorem AS.w_setw {s : AS} {k : Int} (hk : s.inn k) (x : Nat) {j : Int} (hj : s.inn j) : (s.setw k x).w j = if j = k then x else s.w j := by
 by_cases h : j = k
 ·rw [if_pos h, h]; exact AS.setw_w hk
 ·rw [if_neg h]
  obtain ⟨i, hi, _, e⟩ := AS.idx hk
  have hne := AS.idx_ne hj hk h
  unfold AS.w AS.setw
  simp only [e]
  rw [e] at hne
  rw [List.getD_eq_getElem?_getD, List.getElem?_set_ne (fun e => hne e.symm), ← List.getD_eq_getElem?_getD]
section
variable {s t : AS} {id : Int} {m : Nat}
theorem getD_app {α : Type} {l l' : List α} {i : Nat} {d : α} (h : i < l.length) : (l ++ l').getD i d = l.getD i d := by
 rw [List.getD_eq_getElem?_getD, List.getElem?_append_left h, ← List.getD_eq_getElem?_getD]
theorem wlt_word (t : AS) (h : ∀ k, t.inn k → t.w k < 18446744073709551616) (k : Int) : t.wordW k < 18446744073709551616 := by
 unfold AS.wordW
 split
 ·rename_i hk; exact h k hk
 ·decide
end
section
variable {s : AS} {base : Nat} {W W' : World} {R M : List Nd} {q : Nat} {vw vn : Value}
end
end Go.Proofs.YtealejbfloacpaaGreat
namespace Go.Proofs.YtealejbfloacpaaGreat
open Go.RowKit
set_option maxRecDepth 100000
def SzP (B : Nat) (p : NP) : Prop := p.ks.length ≤ B ∧ p.vs.length ≤ B ∧ p.cs.length ≤ B
theorem SzP.mono {B C : Nat} {p : NP} (h : SzP B p) (hc : B ≤ C) : SzP C p := ⟨Nat.le_trans h.1 hc, Nat.le_trans h.2.1 hc, Nat.le_trans h.2.2 hc⟩
def SR (s : AS) (B : Nat) : Prop := ∀ j, s.inn j → RtP (s.n j) ∧ SzP B (s.n j)
theorem SR.mono {s : AS} {B C : Nat} (h : SR s B) (hc : B ≤ C) : SR s C := fun j hj => ⟨(h j hj).1, (h j hj).2.mono hc⟩
theorem rt_zero : RtP NP.zero := ⟨fun j hj => absurd hj (by simp [NP.zero]), .inl ⟨rfl, rfl, rfl⟩⟩
theorem sz_zero (B : Nat) : SzP B NP.zero := ⟨Nat.zero_le _, Nat.zero_le _, Nat.zero_le _⟩
section
variable {s : AS} {B : Nat}
theorem SR.setw (h : SR s B) {k : Int} (hk : s.inn k) (x : Nat) : SR (s.setw k x) B := fun j hj => by
 rw [AS.n_setw hk]
 exact h j ((AS.inn_of_len (AS.setw_len _ _ _) j).1 hj)
theorem SR.lock (h : SR s B) (k : Int) (x : Nat) : SR (s.lockS k x) B := by
 unfold AS.lockS
 split
 case isTrue hk => exact h.setw hk.1 _
 case isFalse => exact h
theorem SR.unl (h : SR s B) (k : Int) (c : Bool) : SR (s.unlS k c) B := by
 unfold AS.unlS
 split
 case isTrue hk =>
  have : s.inn k := Decidable.byContradiction fun hn => by unfold AS.unlE at hk; rw [if_neg hn] at hk; cases hk
  exact h.setw this _
 case isFalse => exact h
theorem SR.gro (h : SR s B) (a b : Int) : SR (s.groS a b) B := by
 unfold AS.groS
 split
 ·exact h
 ·exact h
theorem SR.all (h : SR s B) : SR s.allS B := by
 unfold AS.allS
 split
 case isFalse => exact h
 case isTrue hl =>
  intro j hj
  unfold AS.inn at hj
  simp only [List.length_append, List.length_singleton] at hj
  unfold AS.n
  simp only
  by_cases e : (j - 1).toNat < s.sl.length
  ·rw [List.getD_eq_getElem?_getD, List.getElem?_append_left e, ← List.getD_eq_getElem?_getD]
   exact h j ⟨hj.1, by omega⟩
  ·have e2 : (j - 1).toNat = s.sl.length := by omega
   rw [e2, List.getD_eq_getElem?_getD, List.getElem?_append_right (Nat.le_refl _), Nat.sub_self]
   exact ⟨rt_zero, sz_zero _⟩
theorem SR.fin (h : SR s B) (id : Int) {p : NP} (hp : RtP p ∧ SzP B p) : SR (s.finS id p) B := by
 unfold AS.finS
 by_cases e2 : s.unlE id = 0
 ·have t1 : s.inn id := Decidable.byContradiction fun hn => by unfold AS.unlE at e2; rw [if_neg hn] at e2; cases e2
  have hodd : s.w id % 2 = 1 := by unfold AS.unlE at e2; rw [if_pos t1] at e2; split at e2; cases e2; omega
  have h3 : s.hedS id p.lv p.hi p.ri = s.setn id ((s.n id).setH p.lv p.hi p.ri) := if_pos e2
  rw [h3]
  have t3 : (s.setn id ((s.n id).setH p.lv p.hi p.ri)).inn id := (AS.inn_of_len (AS.setn_len _ _ _) id).2 t1
  have e3 : (s.setn id ((s.n id).setH p.lv p.hi p.ri)).unlE id = 0 := by unfold AS.unlE; rw [if_pos t3, if_neg (by rw [AS.w_setn t1]; omega)]
  have h4 : (s.setn id ((s.n id).setH p.lv p.hi p.ri)).bodS id p.ks p.vs p.cs = (s.setn id ((s.n id).setH p.lv p.hi p.ri)).setn id (((s.setn id ((s.n id).setH p.lv p.hi p.ri)).n id).setB p.ks p.vs p.cs) := if_pos e3
  rw [h4, AS.n_setn t1 _ t1, if_pos rfl]
  have h5 : ((s.n id).setH p.lv p.hi p.ri).setB p.ks p.vs p.cs = p := rfl
  rw [h5]
  refine SR.unl (fun j hj => ?_) id true
  have hj1 := (AS.inn_of_len (AS.setn_len _ _ _) j).1 hj
  have hj2 := (AS.inn_of_len (AS.setn_len _ _ _) j).1 hj1
  rw [AS.n_setn t3 _ hj1]
  by_cases e : j = id
  ·rw [if_pos e]; exact hp
  ·rw [if_neg e, AS.n_setn t1 _ hj2, if_neg e]; exact h j hj2
 ·have h3 : s.hedS id p.lv p.hi p.ri = s := if_neg e2
  have h4 : s.bodS id p.ks p.vs p.cs = s := if_neg e2
  rw [h3, h4]
  exact h.unl id true
theorem SR.lay (h : SR s B) (id : Int) {p : NP} (hp : RtP p ∧ SzP B p) : SR (s.layS id p) B := by
 unfold AS.layS
 split
 ·split
  ·exact h.all.fin id hp
  ·exact h
 ·exact (h.lock _ _).fin id hp
theorem SR.new (n : Int) (B : Nat) : SR (AS.new n) B := fun j hj => by
 unfold AS.inn AS.new at hj
 simp only [List.length_singleton] at hj
 have : j = 1 := by omega
 subst this
 exact ⟨rt_zero, sz_zero _⟩
end
section
variable {p : NP} {B : Nat}
theorem pair_midG {A C : List (List Int)} {key : List Int} (h : (A ++ C).Pairwise fun a b => cmpI a b < 0) (hA : ∀ x ∈ A, cmpI x key < 0) (hC : ∀ x ∈ C, cmpI key x < 0) : (A ++ key :: C).Pairwise fun a b => cmpI a b < 0 := by
 rw [List.pairwise_append] at h ⊢
 refine ⟨h.1, List.pairwise_cons.2 ⟨hC, h.2.1⟩, fun a ha b hb => ?_⟩
 rcases List.mem_cons.1 hb with rfl | hb
 ·exact hA a ha
 ·exact h.2.2 a ha b hb
theorem rt_with (h : RtP p) (h0 : p.lv = 0) (hz : SzP B p) (key value : List Int) : RtP (p.with_ key value) ∧ SzP (B + 1) (p.with_ key value) := by
 obtain ⟨A, C, hA, hC, hc, hor⟩ := parts p.ks key h.1.pair
 obtain ⟨z1, z2, z3⟩ := hz
 rcases h.2 with h1 | h1
 ·have hvl := h1.2.1
  rcases hor with ⟨hin, hks⟩ | ⟨hin, hks⟩
  ·have e1 : p.with_ key value = { p with vs := insL (remL p.vs (cntB p.ks key)) (cntB p.ks key) value } := by unfold NP.with_; rw [hin]; rfl
   have hiv : cntB p.ks key < p.vs.length := by rw [hvl, hc, hks]; simp
   obtain ⟨E, x, F, hvs, hE⟩ := split_at1 hiv
   have e2 : insL (remL p.vs (cntB p.ks key)) (cntB p.ks key) value = E ++ value :: F := by rw [hvs, ← hE, remL_at, insL_at]
   have hl : (E ++ value :: F).length = p.vs.length := by rw [hvs]; simp
   rw [e1, e2]
   exact ⟨⟨h.1, .inl ⟨h0, by rw [hl]; exact hvl, h1.2.2⟩⟩, ⟨Nat.le_succ_of_le z1, by rw [hl]; exact Nat.le_succ_of_le z2, Nat.le_succ_of_le z3⟩⟩
  ·have e1 : p.with_ key value = { p with ks := insL p.ks (cntB p.ks key) key, vs := insL p.vs (cntB p.ks key) value } := by unfold NP.with_; rw [hin]; rfl
   have hiv : cntB p.ks key ≤ p.vs.length := by rw [hvl, hc, hks]; simp
   obtain ⟨E, F, hvs, hE⟩ := split_at hiv
   have e2 : insL p.vs (cntB p.ks key) value = E ++ value :: F := by rw [hvs, ← hE, insL_at]
   have e3 : insL p.ks (cntB p.ks key) key = A ++ key :: C := by rw [hc, hks, insL_at]
   have hl : (E ++ value :: F).length = p.vs.length + 1 := by rw [hvs]; simp; omega
   have hl2 : (A ++ key :: C).length = p.ks.length + 1 := by rw [hks]; simp; omega
   rw [e1, e2, e3]
   exact ⟨⟨Rs.of (pair_midG (hks ▸ h.1.pair) hA hC), .inl ⟨h0, by rw [hl, hl2, hvl], h1.2.2⟩⟩, ⟨by rw [hl2]; omega, by rw [hl]; omega, Nat.le_succ_of_le z3⟩⟩
 ·omega
theorem rt_without (h : RtP p) (h0 : p.lv = 0) (hz : SzP B p) (key : List Int) : RtP (p.without key) ∧ SzP B (p.without key) := by
 obtain ⟨A, C, hA, hC, hc, hor⟩ := parts p.ks key h.1.pair
 rcases h.2 with h1 | h1
 ·have hvl := h1.2.1
  rcases hor with ⟨hin, hks⟩ | ⟨hin, hks⟩
  ·have e1 : p.without key = { p with ks := remL p.ks (cntB p.ks key), vs := remL p.vs (cntB p.ks key) } := by unfold NP.without; rw [hin]; rfl
   have hiv : cntB p.ks key < p.vs.length := by rw [hvl, hc, hks]; simp
   have hik : cntB p.ks key < p.ks.length := by rw [← hvl]; exact hiv
   have r1 := remL_len1 hiv
   have r2 := remL_len1 hik
   have e3 : remL p.ks (cntB p.ks key) = A ++ C := by rw [hc, hks, remL_at]
   have hs : (A ++ C).Sublist (A ++ key :: C) := (List.sublist_cons_self key C).append_left A
   obtain ⟨z1, z2, z3⟩ := hz
   rw [e1]
   refine ⟨⟨Rs.of ?_, .inl ⟨h0, ?_, h1.2.2⟩⟩, ⟨?_, ?_, z3⟩⟩
   ·simp only; rw [e3]; exact List.Pairwise.sublist hs (hks ▸ h.1.pair)
   ·simp only; omega
   ·simp only; omega
   ·simp only; omega
  ·have e1 : p.without key = p := by unfold NP.without; rw [hin]; rfl
   rw [e1]; exact ⟨h, hz⟩
 ·omega
theorem rest_subG : p.restK.Sublist p.ks := by
 unfold NP.restK
 split
 ·exact List.drop_sublist _ _
 ·exact (List.drop_sublist _ _).trans (List.drop_sublist _ _)
theorem rt_halves (h : RtP p) (hw : 2 ≤ p.wd) (hz : SzP B p) (r : Int) : (RtP (p.one r) ∧ SzP B (p.one r)) ∧ (RtP p.two ∧ SzP B p.two) := by
 have hwd := wd_few h
 have hhf : p.half = (p.wd + 1) / 2 := rfl
 have hct := cutK_lt h hw
 obtain ⟨z1, z2, z3⟩ := hz
 have hrl := rest_subG (p := p) |>.length_le
 refine ⟨⟨⟨Rs.of (List.Pairwise.sublist (List.take_sublist _ _) h.1.pair), ?_⟩, ⟨?_, ?_, ?_⟩⟩, ⟨⟨Rs.of (List.Pairwise.sublist rest_subG h.1.pair), ?_⟩, ⟨by show p.restK.length ≤ B; omega, ?_, ?_⟩⟩⟩
 ·show (p.lv = 0 ∧ (p.vs.take p.half).length = (p.ks.take p.cutK).length ∧ (p.cs.take p.half).length = 0) ∨ (0 < p.lv ∧ (p.vs.take p.half).length = 0 ∧ (p.cs.take p.half).length = (p.ks.take p.cutK).length + 1)
  rcases h.2 with h1 | h1
  ·have hck : p.cutK = p.half := if_pos h1.1
   exact .inl ⟨h1.1, by rw [List.length_take, List.length_take, hck, h1.2.1], by rw [List.length_take]; omega⟩
  ·have hck : p.cutK = p.half - 1 := if_neg (by omega)
   rw [if_pos h1.1] at hwd
   exact .inr ⟨h1.1, by rw [List.length_take]; omega, by rw [List.length_take, List.length_take, hck]; omega⟩
 ·show (p.ks.take p.cutK).length ≤ B; rw [List.length_take]; omega
 ·show (p.vs.take p.half).length ≤ B; rw [List.length_take]; omega
 ·show (p.cs.take p.half).length ≤ B; rw [List.length_take]; omega
 ·show (p.lv = 0 ∧ (p.vs.drop p.half).length = p.restK.length ∧ (p.cs.drop p.half).length = 0) ∨ (0 < p.lv ∧ (p.vs.drop p.half).length = 0 ∧ (p.cs.drop p.half).length = p.restK.length + 1)
  rcases h.2 with h1 | h1
  ·have hck : p.cutK = p.half := if_pos h1.1
   have hrk : p.restK = p.ks.drop p.cutK := if_pos h1.1
   exact .inl ⟨h1.1, by rw [hrk, List.length_drop, List.length_drop, hck, h1.2.1], by rw [List.length_drop]; omega⟩
  ·have hck : p.cutK = p.half - 1 := if_neg (by omega)
   have hrk : p.restK = (p.ks.drop p.cutK).drop 1 := if_neg (by omega)
   rw [if_pos h1.1] at hwd
   exact .inr ⟨h1.1, by rw [List.length_drop]; omega, by rw [hrk, List.length_drop, List.length_drop, List.length_drop, hck]; omega⟩
 ·show (p.vs.drop p.half).length ≤ B; rw [List.length_drop]; omega
 ·show (p.cs.drop p.half).length ≤ B; rw [List.length_drop]; omega
end
section
variable {s : AS}
def RSm (s t : AS) : Prop := t.root = s.root ∧ s.sl.length ≤ t.sl.length
theorem RSm.trans {s t u : AS} (h : RSm s t) (k : RSm t u) : RSm s u := ⟨k.1.trans h.1, Nat.le_trans h.2 k.2⟩
theorem rs_lock (s : AS) (k : Int) (x : Nat) : RSm s (s.lockS k x) := by
 unfold AS.lockS; split
 ·exact ⟨rfl, Nat.le_of_eq (AS.setw_len _ _ _).symm⟩
 ·exact ⟨rfl, Nat.le_refl _⟩
theorem rs_unl (s : AS) (k : Int) (c : Bool) : RSm s (s.unlS k c) := by
 unfold AS.unlS; split
 ·exact ⟨rfl, Nat.le_of_eq (AS.setw_len _ _ _).symm⟩
 ·exact ⟨rfl, Nat.le_refl _⟩
theorem rs_hed (s : AS) (k lv : Int) (hi : List Int) (ri : Int) : RSm s (s.hedS k lv hi ri) := by
 unfold AS.hedS; split
 ·exact ⟨rfl, Nat.le_of_eq (AS.setn_len _ _ _).symm⟩
 ·exact ⟨rfl, Nat.le_refl _⟩
theorem rs_bod (s : AS) (k : Int) (a b : List (List Int)) (c : List Int) : RSm s (s.bodS k a b c) := by
 unfold AS.bodS; split
 ·exact ⟨rfl, Nat.le_of_eq (AS.setn_len _ _ _).symm⟩
 ·exact ⟨rfl, Nat.le_refl _⟩
theorem rs_all (s : AS) : RSm s s.allS := by
 unfold AS.allS; split
 ·exact ⟨rfl, by simp⟩
 ·exact ⟨rfl, Nat.le_refl _⟩
theorem rs_fin (s : AS) (id : Int) (p : NP) : RSm s (s.finS id p) := ((rs_hed s id _ _ _).trans (rs_bod _ id _ _ _)).trans (rs_unl _ id true)
theorem rs_lay (s : AS) (id : Int) (p : NP) : RSm s (s.layS id p) := by
 unfold AS.layS; split
 ·split
  ·exact (rs_all s).trans (rs_fin _ id p)
  ·exact ⟨rfl, Nat.le_refl _⟩
 ·exact (rs_lock s _ _).trans (rs_fin _ id p)
def SI (s : AS) (B : Nat) : Prop := SR s B ∧ s.inn s.root
theorem SI.mono {B C : Nat} (h : SI s B) (hc : B ≤ C) : SI s C := ⟨h.1.mono hc, h.2⟩
theorem inn_rsm {t : AS} (h : s.inn s.root) (k : RSm s t) : t.inn t.root := by
 unfold AS.inn at *
 rw [k.1]
 have := k.2
 omega
theorem SI.lay {B : Nat} (h : SI s B) (id : Int) {p : NP} (hp : RtP p ∧ SzP B p) : SI (s.layS id p) B := ⟨h.1.lay id hp, inn_rsm h.2 (rs_lay s id p)⟩
theorem SI.lock {B : Nat} (h : SI s B) (k : Int) (x : Nat) : SI (s.lockS k x) B := ⟨h.1.lock k x, inn_rsm h.2 (rs_lock s k x)⟩
theorem SI.unl {B : Nat} (h : SI s B) (k : Int) (c : Bool) : SI (s.unlS k c) B := ⟨h.1.unl k c, inn_rsm h.2 (rs_unl s k c)⟩
theorem SI.gro {B : Nat} (h : SI s B) (a b : Int) : SI (s.groS a b) B := by
 refine ⟨h.1.gro a b, ?_⟩
 unfold AS.groS
 split
 case isTrue hk => exact hk.1
 case isFalse => exact h.2
theorem SI.new (n : Int) (B : Nat) : SI (AS.new n) B := ⟨SR.new n B, ⟨Int.le_refl _, by simp [AS.new]⟩⟩
end
end Go.Proofs.YtealejbfloacpaaGreat
