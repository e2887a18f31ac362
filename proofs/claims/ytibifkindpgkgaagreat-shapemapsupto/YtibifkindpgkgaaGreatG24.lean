/- The statements' Raw: one call of both. -/
import Derived.Test.YtibifkindpgkgaaGreatG23
import Derived.Test.YtibifkindpgkgaaGreatG14
namespace Go.Proofs.YtibifkindpgkgaaGreat
open Go.RowKit
set_option maxRecDepth 100000
section
variable {K : Nat → Prop} {W : World} {P AX AY : Nat} {s : AS}
set_option maxRecDepth 100000 in
set_option maxHeartbeats 3200000 in
theorem raw6 (h : AW K W P AX AY s s) (o : AOp) (ho : o.Ok K W) (hk : pickN o.kind 9 = 6) : Calls Tryz.prog 19 #[.pointer (some ⟨P, 0, none⟩), o.v] W (AwPost K W P AX AY (s.groS (s.id o.a) (s.id o.b))) := by
  obtain ⟨kd, ra, rb, rw', ch, n⟩ := o
  obtain ⟨⟨k1, k2⟩, ⟨a1, a2⟩, ⟨b1, b2⟩, w1, hn, hi⟩ := ho
  simp only at hk k1 k2 a1 a2 b1 b2 w1 hn hi
  simp only [AOp.v]
  have hid : s.id ra = ((pickN ra (s.sl.length + 2) : Nat) : Int) := rfl
  obtain ⟨w0, hw0⟩ : ∃ w0, w0 = W.alloc (.cells #[.int .i64 kd, .int .i64 ra, .int .i64 rb, .int .u64 (rw' : Nat), .bool ch, .int .i64 n.lv, n.hi.v, .int .i64 n.ri, n.ks.v, n.vs.v, n.cs.v] 63) := ⟨_, rfl⟩
  have b0 : Below W.heap.size W w0 := by rw [hw0]; exact (Below.refl _ _).alloc (Nat.le_refl _) _
  have z0 : w0.heap.size = W.heap.size + 1 := by rw [hw0]; simp
  have g0 : w0.heap[W.heap.size]? = some (.cells #[.int .i64 kd, .int .i64 ra, .int .i64 rb, .int .u64 (rw' : Nat), .bool ch, .int .i64 n.lv, n.hi.v, .int .i64 n.ri, n.ks.v, n.vs.v, n.cs.v] 63 (0, 0)) := by rw [hw0]; exact heap_alloc_new W _
  obtain ⟨K', hK'⟩ : ∃ K' : Nat → Prop, K' = fun k => K k ∨ k = W.heap.size := ⟨_, rfl⟩
  have hA0 : AW K' w0 P AX AY s s := h.more b0 (fun k hk => by rw [hK'] at hk; rcases hk with hk | hk; exact .inl hk; exact .inr (by omega)) (by rw [hK']; exact .inl h.kp)
  have hi0 : n.In K' := hi.mono (fun k hk => by rw [hK']; exact .inl hk)
  have kb : K' W.heap.size := by rw [hK']; exact .inr rfl
  have kk : ∀ k, K k → K' k := fun k hk => by rw [hK']; exact .inl hk
  have HEND : Hid (∀ w' u, AW K' w' P AX AY u u → Upd (fun k => ¬ K' k) w0 w' → AwPost K W P AX AY u (.returned (.bool true)) w') := fun w' u h1 h2 => ⟨rfl, h1.less kk h.kp, (kept_below b0).trans (kept_less h2 kk)⟩
  have HCE : Hid (∀ w', Upd (fun k => ¬ K' k) w0 w' → w'.heap[W.heap.size]? = some (.cells #[.int .i64 kd, .int .i64 ra, .int .i64 rb, .int .u64 (rw' : Nat), .bool ch, .int .i64 n.lv, n.hi.v, .int .i64 n.ri, n.ks.v, n.vs.v, n.cs.v] 63 (0, 0))) := fun w' hu => kept_heap hu g0 kb
  have HOK : Hid (∀ w', Upd (fun k => ¬ K' k) w0 w' → n.Ok w') := fun w' hu => (hn.below b0).kept hi0 hu
  have HIN := hide hi0
  have HU0 : Hid (Upd (fun k => ¬ K' k) w0 w0) := Upd.refl _ _
  have HID := hide (wid_any hA0 ra a1 a2)
  have HIDB := hide (wid_any hA0 rb b1 b2)
  have HPK := hide (pick_any kd 9 w0 (by decide) (by decide) k1 k2)
  rw [hk, show (((6 : Nat)) : Int) = 6 from rfl, show (((9 : Nat)) : Int) = 9 from rfl] at HPK
  have HLEN := hide hA0.len
  obtain ⟨c0, c1⟩ := hA0.cells
  rw [← hid] at HID
  have HA0 := hide hA0
  have HW := hide hw0
  clear h hn hi hK' hA0 hi0 kb kk b0 hw0 z0 k1 k2 hk hid
  rw [show ((pickN rb (s.sl.length + 2) : Nat) : Int) = s.id rb from rfl] at HIDB
  have GX := hide (HA0.out.X (fun F hp => px_grow hp (s.id ra) (s.id rb)))
  have GY : Hid (∀ w' u, AW K' w' P AX AY u s → Calls Tryz.prog 75 #[.pointer (some ⟨AY, 0, none⟩), .int .i64 (s.id ra), .int .i64 (s.id rb)] w' fun e w'' => e = .returned (.tuple #[.bool (s.groB (s.id ra) (s.id rb)), .int .i64 (s.wordE (s.id rb))]) ∧ AW K' w'' P AX AY u (s.groS (s.id ra) (s.id rb)) ∧ Upd (fun k => ¬ K' k) w' w'') := fun w' u hw => hw.Y (fun F hp => rx_grow hp (s.id ra) (s.id rb))
  obtain ⟨lv, ⟨ha, hc, hs⟩, ri, ⟨ka, kc, KL⟩, ⟨va, vc, V⟩, ⟨ca, cc, C⟩⟩ := n
  simp only [Tx.v, TL.v, IL.v] at *
  generalize hs.length = lh at *
  generalize KL.length = lk at *
  generalize V.length = lw at *
  generalize C.length = lc at *
  generalize s.groB (s.id ra) (s.id rb) = gb at *
  generalize s.wordE (s.id rb) = ge at *
  generalize s.groS (s.id ra) (s.id rb) = gs at *
  generalize s.id rb = idb at *
  have y0 : w0.cell? ⟨W.heap.size, 0, none⟩ = some (.int .i64 kd) := row_cell g0 0 rfl
  have y1 : w0.cell? ⟨W.heap.size, 1, none⟩ = some (.int .i64 ra) := row_cell g0 1 rfl
  have y2 : w0.cell? ⟨W.heap.size, 2, none⟩ = some (.int .i64 rb) := row_cell g0 2 rfl
  have y3 : w0.cell? ⟨W.heap.size, 3, none⟩ = some (.int .u64 (rw' : Nat)) := row_cell g0 3 rfl
  have y4 : w0.cell? ⟨W.heap.size, 4, none⟩ = some (.bool ch) := row_cell g0 4 rfl
  have y5 : w0.cell? ⟨W.heap.size, 5, none⟩ = some (.int .i64 lv) := row_cell g0 5 rfl
  have y6 : w0.cell? ⟨W.heap.size, 6, none⟩ = some (.slice ha lh hc) := row_cell g0 6 rfl
  have y7 : w0.cell? ⟨W.heap.size, 7, none⟩ = some (.int .i64 ri) := row_cell g0 7 rfl
  have y8 : w0.cell? ⟨W.heap.size, 8, none⟩ = some (.slice ka lk kc) := row_cell g0 8 rfl
  have y9 : w0.cell? ⟨W.heap.size, 9, none⟩ = some (.slice va lw vc) := row_cell g0 9 rfl
  have y10 : w0.cell? ⟨W.heap.size, 10, none⟩ = some (.slice ca lc cc) := row_cell g0 10 rfl
  clear g0
  generalize s.id ra = id at *
  go_enter Tryz.func19, Tryz.ntmps19
  go_wp2_with fail
  rw [← HW.out]
  refine keep HID.out ?_
  go_wp2_with fail
  refine keep HPK.out ?_
  go_wp2_with fail
  refine keep HIDB.out ?_
  go_wp2_with fail
  refine GX.out.mono ?_
  rintro e w1 ⟨rfl, hA, hU⟩
  obtain ⟨d0, d1⟩ := hA.cells
  have AY1 := hide (GY.out w1 _ hA)
  have U1 := hide hU
  clear hA hU c0 c1
  go_wp2_with fail
  refine AY1.out.mono ?_
  rintro e w2 ⟨rfl, hA, hU⟩
  have HF := hide (HEND.out w2 _ hA (U1.out.trans hU))
  clear hA hU HEND
  go_wp2_with fail
  go_ret
  have := HF.out
  simpa using this
set_option maxRecDepth 100000 in
set_option maxHeartbeats 3200000 in
theorem raw8 (h : AW K W P AX AY s s) (o : AOp) (ho : o.Ok K W) (hk : pickN o.kind 9 = 8) : Calls Tryz.prog 19 #[.pointer (some ⟨P, 0, none⟩), o.v] W (AwPost K W P AX AY (s.lockS (s.id o.a) o.w)) := by
  obtain ⟨kd, ra, rb, rw', ch, n⟩ := o
  obtain ⟨⟨k1, k2⟩, ⟨a1, a2⟩, ⟨b1, b2⟩, w1, hn, hi⟩ := ho
  simp only at hk k1 k2 a1 a2 b1 b2 w1 hn hi
  simp only [AOp.v]
  have hid : s.id ra = ((pickN ra (s.sl.length + 2) : Nat) : Int) := rfl
  obtain ⟨w0, hw0⟩ : ∃ w0, w0 = W.alloc (.cells #[.int .i64 kd, .int .i64 ra, .int .i64 rb, .int .u64 (rw' : Nat), .bool ch, .int .i64 n.lv, n.hi.v, .int .i64 n.ri, n.ks.v, n.vs.v, n.cs.v] 63) := ⟨_, rfl⟩
  have b0 : Below W.heap.size W w0 := by rw [hw0]; exact (Below.refl _ _).alloc (Nat.le_refl _) _
  have z0 : w0.heap.size = W.heap.size + 1 := by rw [hw0]; simp
  have g0 : w0.heap[W.heap.size]? = some (.cells #[.int .i64 kd, .int .i64 ra, .int .i64 rb, .int .u64 (rw' : Nat), .bool ch, .int .i64 n.lv, n.hi.v, .int .i64 n.ri, n.ks.v, n.vs.v, n.cs.v] 63 (0, 0)) := by rw [hw0]; exact heap_alloc_new W _
  obtain ⟨K', hK'⟩ : ∃ K' : Nat → Prop, K' = fun k => K k ∨ k = W.heap.size := ⟨_, rfl⟩
  have hA0 : AW K' w0 P AX AY s s := h.more b0 (fun k hk => by rw [hK'] at hk; rcases hk with hk | hk; exact .inl hk; exact .inr (by omega)) (by rw [hK']; exact .inl h.kp)
  have hi0 : n.In K' := hi.mono (fun k hk => by rw [hK']; exact .inl hk)
  have kb : K' W.heap.size := by rw [hK']; exact .inr rfl
  have kk : ∀ k, K k → K' k := fun k hk => by rw [hK']; exact .inl hk
  have HEND : Hid (∀ w' u, AW K' w' P AX AY u u → Upd (fun k => ¬ K' k) w0 w' → AwPost K W P AX AY u (.returned (.bool true)) w') := fun w' u h1 h2 => ⟨rfl, h1.less kk h.kp, (kept_below b0).trans (kept_less h2 kk)⟩
  have HCE : Hid (∀ w', Upd (fun k => ¬ K' k) w0 w' → w'.heap[W.heap.size]? = some (.cells #[.int .i64 kd, .int .i64 ra, .int .i64 rb, .int .u64 (rw' : Nat), .bool ch, .int .i64 n.lv, n.hi.v, .int .i64 n.ri, n.ks.v, n.vs.v, n.cs.v] 63 (0, 0))) := fun w' hu => kept_heap hu g0 kb
  have HOK : Hid (∀ w', Upd (fun k => ¬ K' k) w0 w' → n.Ok w') := fun w' hu => (hn.below b0).kept hi0 hu
  have HIN := hide hi0
  have HU0 : Hid (Upd (fun k => ¬ K' k) w0 w0) := Upd.refl _ _
  have HID := hide (wid_any hA0 ra a1 a2)
  have HIDB := hide (wid_any hA0 rb b1 b2)
  have HPK := hide (pick_any kd 9 w0 (by decide) (by decide) k1 k2)
  rw [hk, show (((8 : Nat)) : Int) = 8 from rfl, show (((9 : Nat)) : Int) = 9 from rfl] at HPK
  have HLEN := hide hA0.len
  obtain ⟨c0, c1⟩ := hA0.cells
  rw [← hid] at HID
  have HA0 := hide hA0
  have HW := hide hw0
  clear h hn hi hK' hA0 hi0 kb kk b0 hw0 z0 k1 k2 hk hid
  have LCK := hide (wlock_any HA0.out (s.id ra) rw' w1)
  obtain ⟨lv, ⟨ha, hc, hs⟩, ri, ⟨ka, kc, KL⟩, ⟨va, vc, V⟩, ⟨ca, cc, C⟩⟩ := n
  simp only [Tx.v, TL.v, IL.v] at *
  generalize hs.length = lh at *
  generalize KL.length = lk at *
  generalize V.length = lw at *
  generalize C.length = lc at *
  have y0 : w0.cell? ⟨W.heap.size, 0, none⟩ = some (.int .i64 kd) := row_cell g0 0 rfl
  have y1 : w0.cell? ⟨W.heap.size, 1, none⟩ = some (.int .i64 ra) := row_cell g0 1 rfl
  have y2 : w0.cell? ⟨W.heap.size, 2, none⟩ = some (.int .i64 rb) := row_cell g0 2 rfl
  have y3 : w0.cell? ⟨W.heap.size, 3, none⟩ = some (.int .u64 (rw' : Nat)) := row_cell g0 3 rfl
  have y4 : w0.cell? ⟨W.heap.size, 4, none⟩ = some (.bool ch) := row_cell g0 4 rfl
  have y5 : w0.cell? ⟨W.heap.size, 5, none⟩ = some (.int .i64 lv) := row_cell g0 5 rfl
  have y6 : w0.cell? ⟨W.heap.size, 6, none⟩ = some (.slice ha lh hc) := row_cell g0 6 rfl
  have y7 : w0.cell? ⟨W.heap.size, 7, none⟩ = some (.int .i64 ri) := row_cell g0 7 rfl
  have y8 : w0.cell? ⟨W.heap.size, 8, none⟩ = some (.slice ka lk kc) := row_cell g0 8 rfl
  have y9 : w0.cell? ⟨W.heap.size, 9, none⟩ = some (.slice va lw vc) := row_cell g0 9 rfl
  have y10 : w0.cell? ⟨W.heap.size, 10, none⟩ = some (.slice ca lc cc) := row_cell g0 10 rfl
  clear g0
  generalize s.id ra = id at *
  go_enter Tryz.func19, Tryz.ntmps19
  go_wp2_with fail
  rw [← HW.out]
  refine keep HID.out ?_
  go_wp2_with fail
  refine keep HPK.out ?_
  go_wp2_with fail
  refine LCK.out.mono ?_
  rintro e w2 ⟨rfl, hA, hU⟩
  have HF := hide (HEND.out w2 _ hA hU)
  clear hA hU HEND
  go_wp2_with fail
  go_ret
  exact HF.out
end

end Go.Proofs.YtibifkindpgkgaaGreat

namespace Go.Proofs.YtibifkindpgkgaaGreat
open Go.RowKit
set_option maxRecDepth 100000
section
variable {K : Nat → Prop} {W : World} {P AX AY : Nat} {s : AS}
set_option maxRecDepth 100000 in
set_option maxHeartbeats 3200000 in
theorem raw7 (h : AW K W P AX AY s s) (o : AOp) (ho : o.Ok K W) (hk : pickN o.kind 9 = 7) : Calls Tryz.prog 19 #[.pointer (some ⟨P, 0, none⟩), o.v] W (AwPost K W P AX AY (s.layS (1 + ((pickN o.a (s.sl.length + 1) : Nat) : Int)) o.n.p)) := by
  obtain ⟨kd, ra, rb, rw', ch, n⟩ := o
  obtain ⟨⟨k1, k2⟩, ⟨a1, a2⟩, ⟨b1, b2⟩, w1, hn, hi⟩ := ho
  simp only at hk k1 k2 a1 a2 b1 b2 w1 hn hi
  simp only [AOp.v]
  have hid : s.id ra = ((pickN ra (s.sl.length + 2) : Nat) : Int) := rfl
  obtain ⟨w0, hw0⟩ : ∃ w0, w0 = W.alloc (.cells #[.int .i64 kd, .int .i64 ra, .int .i64 rb, .int .u64 (rw' : Nat), .bool ch, .int .i64 n.lv, n.hi.v, .int .i64 n.ri, n.ks.v, n.vs.v, n.cs.v] 63) := ⟨_, rfl⟩
  have b0 : Below W.heap.size W w0 := by rw [hw0]; exact (Below.refl _ _).alloc (Nat.le_refl _) _
  have z0 : w0.heap.size = W.heap.size + 1 := by rw [hw0]; simp
  have g0 : w0.heap[W.heap.size]? = some (.cells #[.int .i64 kd, .int .i64 ra, .int .i64 rb, .int .u64 (rw' : Nat), .bool ch, .int .i64 n.lv, n.hi.v, .int .i64 n.ri, n.ks.v, n.vs.v, n.cs.v] 63 (0, 0)) := by rw [hw0]; exact heap_alloc_new W _
  obtain ⟨K', hK'⟩ : ∃ K' : Nat → Prop, K' = fun k => K k ∨ k = W.heap.size := ⟨_, rfl⟩
  have hA0 : AW K' w0 P AX AY s s := h.more b0 (fun k hk => by rw [hK'] at hk; rcases hk with hk | hk; exact .inl hk; exact .inr (by omega)) (by rw [hK']; exact .inl h.kp)
  have hi0 : n.In K' := hi.mono (fun k hk => by rw [hK']; exact .inl hk)
  have kb : K' W.heap.size := by rw [hK']; exact .inr rfl
  have kk : ∀ k, K k → K' k := fun k hk => by rw [hK']; exact .inl hk
  have HEND : Hid (∀ w' u, AW K' w' P AX AY u u → Upd (fun k => ¬ K' k) w0 w' → AwPost K W P AX AY u (.returned (.bool true)) w') := fun w' u h1 h2 => ⟨rfl, h1.less kk h.kp, (kept_below b0).trans (kept_less h2 kk)⟩
  have HCE : Hid (∀ w', Upd (fun k => ¬ K' k) w0 w' → w'.heap[W.heap.size]? = some (.cells #[.int .i64 kd, .int .i64 ra, .int .i64 rb, .int .u64 (rw' : Nat), .bool ch, .int .i64 n.lv, n.hi.v, .int .i64 n.ri, n.ks.v, n.vs.v, n.cs.v] 63 (0, 0))) := fun w' hu => kept_heap hu g0 kb
  have HOK : Hid (∀ w', Upd (fun k => ¬ K' k) w0 w' → n.Ok w') := fun w' hu => (hn.below b0).kept hi0 hu
  have HIN := hide hi0
  have HU0 : Hid (Upd (fun k => ¬ K' k) w0 w0) := Upd.refl _ _
  have HID := hide (wid_any hA0 ra a1 a2)
  have HIDB := hide (wid_any hA0 rb b1 b2)
  have HPK := hide (pick_any kd 9 w0 (by decide) (by decide) k1 k2)
  rw [hk, show (((7 : Nat)) : Int) = 7 from rfl, show (((9 : Nat)) : Int) = 9 from rfl] at HPK
  have HLEN := hide hA0.len
  obtain ⟨c0, c1⟩ := hA0.cells
  rw [← hid] at HID
  have HA0 := hide hA0
  have HW := hide hw0
  clear h hn hi hK' hA0 hi0 kb kk b0 hw0 z0 k1 k2 hk hid
  have hll := HLEN.out.1
  have UY : Hid (∀ w', AW K' w' P AX AY s s → Calls Tryz.prog 22 #[.pointer (some ⟨AY, 0, none⟩)] w' fun e w'' => e = .returned (.int .i64 (s.sl.length : Nat)) ∧ w'' = w') := fun w' hw => aw_usedY hw
  have PK : Hid (∀ w', Calls Tryz.prog 62 #[.int .i64 ra, .int .i64 ((s.sl.length : Int) + 1)] w' fun e w'' => e = .returned (.int .i64 (pickN ra (s.sl.length + 1) : Nat)) ∧ w'' = w') := fun w' => pick_any ra (s.sl.length + 1) w' (by omega) (by omega) a1 a2
  have hpl := pickN_lt ra (s.sl.length + 1) (by omega)
  have LAY : Hid (∀ w', AW K' w' P AX AY s s → Upd (fun k => ¬ K' k) w0 w' → Calls Tryz.prog 76 #[.pointer (some ⟨P, 0, none⟩), .int .i64 (1 + ((pickN ra (s.sl.length + 1) : Nat) : Int)), n.v] w' (AwPost K' w' P AX AY (s.layS (1 + ((pickN ra (s.sl.length + 1) : Nat) : Int)) n.p))) := fun w' hw hu => wlay_any hw _ n (HOK.out w' hu) HIN.out
  obtain ⟨lv, ⟨ha, hc, hs⟩, ri, ⟨ka, kc, KL⟩, ⟨va, vc, V⟩, ⟨ca, cc, C⟩⟩ := n
  simp only [Nd.v, Tx.v, TL.v, IL.v] at *
  generalize hs.length = lh at *
  generalize KL.length = lk at *
  generalize V.length = lw at *
  generalize C.length = lc at *
  generalize s.layS (1 + ((pickN ra (s.sl.length + 1) : Nat) : Int)) (Nd.p ⟨lv, ⟨ha, hc, hs⟩, ri, ⟨ka, kc, KL⟩, ⟨va, vc, V⟩, ⟨ca, cc, C⟩⟩) = ls at *
  generalize pickN ra (s.sl.length + 1) = pl at *
  generalize s.sl.length = ll at *
  have j1 : IntKind.i64.wrap ((ll : Int) + 1) = (ll : Int) + 1 := by rw [IntKind.wrap_i64]; omega
  have j2 : IntKind.i64.wrap (1 + (pl : Int)) = 1 + (pl : Int) := by rw [IntKind.wrap_i64]; omega
  have y0 : w0.cell? ⟨W.heap.size, 0, none⟩ = some (.int .i64 kd) := row_cell g0 0 rfl
  have y1 : w0.cell? ⟨W.heap.size, 1, none⟩ = some (.int .i64 ra) := row_cell g0 1 rfl
  have y2 : w0.cell? ⟨W.heap.size, 2, none⟩ = some (.int .i64 rb) := row_cell g0 2 rfl
  have y3 : w0.cell? ⟨W.heap.size, 3, none⟩ = some (.int .u64 (rw' : Nat)) := row_cell g0 3 rfl
  have y4 : w0.cell? ⟨W.heap.size, 4, none⟩ = some (.bool ch) := row_cell g0 4 rfl
  have y5 : w0.cell? ⟨W.heap.size, 5, none⟩ = some (.int .i64 lv) := row_cell g0 5 rfl
  have y6 : w0.cell? ⟨W.heap.size, 6, none⟩ = some (.slice ha lh hc) := row_cell g0 6 rfl
  have y7 : w0.cell? ⟨W.heap.size, 7, none⟩ = some (.int .i64 ri) := row_cell g0 7 rfl
  have y8 : w0.cell? ⟨W.heap.size, 8, none⟩ = some (.slice ka lk kc) := row_cell g0 8 rfl
  have y9 : w0.cell? ⟨W.heap.size, 9, none⟩ = some (.slice va lw vc) := row_cell g0 9 rfl
  have y10 : w0.cell? ⟨W.heap.size, 10, none⟩ = some (.slice ca lc cc) := row_cell g0 10 rfl
  clear g0
  generalize s.id ra = id at *
  go_enter Tryz.func19, Tryz.ntmps19
  go_wp2_with fail
  rw [← HW.out]
  refine keep HID.out ?_
  go_wp2_with fail
  refine keep HPK.out ?_
  go_wp2_with fail
  go_region_held3 (fun W' => W'.cell? ⟨P, 1, none⟩ = some (.pointer (some ⟨AY, 0, none⟩)) ∧ W'.cell? ⟨W.heap.size, 1, none⟩ = some (.int .i64 ra) ∧ W'.cell? ⟨W.heap.size, 5, none⟩ = some (.int .i64 lv) ∧ W'.cell? ⟨W.heap.size, 6, none⟩ = some (.slice ha lh hc) ∧ W'.cell? ⟨W.heap.size, 7, none⟩ = some (.int .i64 ri) ∧ W'.cell? ⟨W.heap.size, 8, none⟩ = some (.slice ka lk kc) ∧ W'.cell? ⟨W.heap.size, 9, none⟩ = some (.slice va lw vc) ∧ W'.cell? ⟨W.heap.size, 10, none⟩ = some (.slice ca lc cc)) (go_keep) (first
    | (go_at_call 76; refine (LAY.out w0.drew (HA0.out.below (below_drew (Below.refl _ _))) (HU0.out.drew)).mono ?_; rintro e w2 ⟨rfl, hA, hU⟩; have A2 := hide hA; have U2 : Hid (Upd (fun k => ¬ K' k) w0 w2) := ((Upd.refl _ w0).drew).trans hU; obtain ⟨f0, f1⟩ := hA.cells; have t1 := row_cell (HCE.out w2 U2.out) 1 rfl; have t5 := row_cell (HCE.out w2 U2.out) 5 rfl; have t6 := row_cell (HCE.out w2 U2.out) 6 rfl; have t7 := row_cell (HCE.out w2 U2.out) 7 rfl; have t8 := row_cell (HCE.out w2 U2.out) 8 rfl; have t9 := row_cell (HCE.out w2 U2.out) 9 rfl; have t10 := row_cell (HCE.out w2 U2.out) 10 rfl; clear hA hU)
    | (go_at_call 62; refine keep (PK.out w0.drew) ?_)
    | (go_at_call 22; refine keep (UY.out w0.drew (HA0.out.below (below_drew (Below.refl _ _)))) ?_)
    | fail)
  have HF := hide (HEND.out w2 _ A2.out U2.out)
  clear HEND f0 f1
  go_wp2_with fail
  go_ret
  exact HF.out
end

end Go.Proofs.YtibifkindpgkgaaGreat

namespace Go.Proofs.YtibifkindpgkgaaGreat
open Go.RowKit
set_option maxRecDepth 100000
theorem raw_any {K : Nat → Prop} {W : World} {P AX AY : Nat} {s : AS} (h : AW K W P AX AY s s) (o : AOp) (ho : o.Ok K W) : Calls Tryz.prog 19 #[.pointer (some ⟨P, 0, none⟩), o.v] W (AwPost K W P AX AY (s.raw o)) := by
  have hlt := pickN_lt o.kind 9 (by decide)
  unfold AS.raw
  by_cases h0 : pickN o.kind 9 = 0
  · rw [if_pos h0]; exact raw0 h o ho h0
  rw [if_neg h0]
  by_cases h1 : pickN o.kind 9 = 1
  · rw [if_pos h1]; exact raw1 h o ho h1
  rw [if_neg h1]
  by_cases h2 : pickN o.kind 9 = 2
  · rw [if_pos h2]; exact raw2 h o ho h2
  rw [if_neg h2]
  by_cases h3 : pickN o.kind 9 = 3
  · rw [if_pos h3]; exact raw3 h o ho h3
  rw [if_neg h3]
  by_cases h4 : pickN o.kind 9 = 4
  · rw [if_pos h4]; exact raw4 h o ho h4
  rw [if_neg h4]
  by_cases h5 : pickN o.kind 9 = 5
  · rw [if_pos h5]; exact raw5 h o ho h5
  rw [if_neg h5]
  by_cases h6 : pickN o.kind 9 = 6
  · rw [if_pos h6]; exact raw6 h o ho h6
  rw [if_neg h6]
  by_cases h7 : pickN o.kind 9 = 7
  · rw [if_pos h7]; exact raw7 h o ho h7
  rw [if_neg h7]
  exact raw8 h o ho (by omega)

/-- A script in memory. -/
structure Ops (K : Nat → Prop) (W : World) (a : Option Addr) (L : List AOp) : Prop where
  c : ∀ i (h : i < L.length), ∃ b o, a = some ⟨b, o, none⟩ ∧ K b ∧ ∀ j (v : Value), (match L[i].v with | .agg cs => cs | _ => #[])[j]? = some v → W.cell? ⟨b, o + i * 11 + j, none⟩ = some v
  ok : ∀ x ∈ L, x.Ok K W
theorem Ops.kept {K : Nat → Prop} {W W' : World} {a : Option Addr} {L : List AOp} (h : Ops K W a L) (hu : Upd (fun k => ¬ K k) W W') : Ops K W' a L := by
  refine ⟨fun i hi => ?_, fun x hx => (h.ok x hx).kept hu⟩
  obtain ⟨b, o, ha, hk, hc⟩ := h.c i hi
  exact ⟨b, o, ha, hk, fun j v hv => kept_cell hu (hc j v hv) hk⟩
theorem Ops.mono {K K' : Nat → Prop} {W : World} {a : Option Addr} {L : List AOp} (h : Ops K W a L) (hk : ∀ k, K k → K' k) : Ops K' W a L := by
  refine ⟨fun i hi => ?_, fun x hx => ?_⟩
  · obtain ⟨b, o, ha, hb, hc⟩ := h.c i hi
    exact ⟨b, o, ha, hk b hb, hc⟩
  · have := h.ok x hx
    exact ⟨this.k1, this.a1, this.b1, this.w1, this.n, this.i.mono hk⟩
/-- What a script leaves. -/
def AS.run (s : AS) (L : List AOp) : AS := L.foldl AS.raw s
theorem AS.run_take (s : AS) (L : List AOp) (i : Nat) (h : i < L.length) : s.run (L.take (i + 1)) = (s.run (L.take i)).raw L[i] := by
  unfold AS.run
  rw [take_next h, List.foldl_append]
  rfl

end Go.Proofs.YtibifkindpgkgaaGreat

namespace Go.Proofs.YtibifkindpgkgaaGreat
open Go.RowKit
set_option maxRecDepth 100000
theorem AS.setw_len (s : AS) (id : Int) (x : Nat) : (s.setw id x).sl.length = s.sl.length := by simp [AS.setw]
theorem AS.setw_inn {s : AS} {id id' : Int} {x : Nat} (h : s.inn id) : (s.setw id' x).inn id := by unfold AS.inn at *; rw [AS.setw_len]; exact h
theorem AS.setw_w {s : AS} {id : Int} {x : Nat} (h : s.inn id) : (s.setw id x).w id = x := by
  obtain ⟨i, hi, _, e⟩ := AS.idx h
  unfold AS.w AS.setw
  simp only [e]
  rw [List.getD_eq_getElem?_getD, List.getElem?_set_self hi]
  rfl
/-- A latch that is held, and what it is given back as. -/
theorem held_lock {s : AS} {id : Int} (ho : s.w id % 2 = 1) (x : Nat) : s.lockB id x = false ∧ s.lockS id x = s := by
  have hn : ¬ (s.inn id ∧ s.w id = x ∧ x % 2 = 0) := fun ⟨_, h1, h2⟩ => by omega
  exact ⟨decide_eq_false hn, if_neg hn⟩
theorem took_held {s : AS} {id : Int} (h : s.inn id) : (s.lockS id (s.w id)).inn id ∧ (s.lockS id (s.w id)).w id = (if s.w id % 2 = 0 then s.w id + 1 else s.w id) ∧ s.lockB id (s.w id) = decide (s.w id % 2 = 0) := by
  by_cases hx : s.w id % 2 = 0
  · rw [show s.lockS id (s.w id) = s.setw id (s.w id + 1) from if_pos ⟨h, rfl, hx⟩, if_pos hx]
    exact ⟨AS.setw_inn h, AS.setw_w h, by unfold AS.lockB; rw [decide_eq_true ⟨h, rfl, hx⟩, decide_eq_true hx]⟩
  · rw [show s.lockS id (s.w id) = s from if_neg (fun e => hx e.2.2), if_neg hx]
    exact ⟨h, rfl, by unfold AS.lockB; rw [decide_eq_false (fun e => hx e.2.2), decide_eq_false hx]⟩
theorem unl_held {s : AS} {id : Int} (h : s.inn id) (ho : s.w id % 2 = 1) (ch : Bool) : s.unlE id = 0 ∧ s.unlS id ch = s.setw id (freeW (s.w id) ch) := by
  have hE : s.unlE id = 0 := by unfold AS.unlE; rw [if_pos h, if_neg (by omega)]
  exact ⟨hE, if_pos hE⟩
theorem wordW_in {s : AS} {id : Int} (h : s.inn id) : s.wordW id = s.w id ∧ s.wordE id = 0 := ⟨if_pos h, if_pos h⟩
theorem freeW_even {y : Nat} (ho : y % 2 = 1) (ch : Bool) : freeW y ch % 2 = 0 := by
  unfold freeW
  cases ch
  · simp; omega
  · simp only [if_true]; omega
/-- Behind a latch that was taken at an even word x. -/
theorem free_back (x : Nat) (ch : Bool) : (decide (freeW (x + 1) ch = x)) = !ch := by
  unfold freeW
  cases ch
  · simp
  · simp only [if_true, Bool.not_true, decide_eq_false_iff_not]; omega
/-- The number that a raw one speaks of among the taken. -/
def AS.nth (s : AS) (c : Int) : Int := 1 + ((pickN c s.sl.length : Nat) : Int)
theorem AS.nth_in {s : AS} (c : Int) (h : 1 ≤ s.sl.length) : s.inn (s.nth c) := by
  have := pickN_lt c s.sl.length (by omega)
  unfold AS.inn AS.nth
  omega

end Go.Proofs.YtibifkindpgkgaaGreat

namespace Go.Proofs.YtibifkindpgkgaaGreat
open Go.RowKit
set_option maxRecDepth 100000
theorem AS.idx_ne {s : AS} {j k : Int} (hj : s.inn j) (hk : s.inn k) (h : j ≠ k) : (j - 1).toNat ≠ (k - 1).toNat := by unfold AS.inn at *; omega
theorem AS.n_setw {s : AS} {k : Int} (hk : s.inn k) (x : Nat) (j : Int) : (s.setw k x).n j = s.n j := by
  obtain ⟨i, hi, _, e⟩ := AS.idx hk
  unfold AS.n AS.setw
  simp only [e]
  by_cases h : (j - 1).toNat = i
  · rw [h, List.getD_eq_getElem?_getD, List.getElem?_set_self hi]
    unfold AS.n
    rw [e]; rfl
  · rw [List.getD_eq_getElem?_getD, List.getElem?_set_ne (fun e => h e.symm), ← List.getD_eq_getElem?_getD]
theorem AS.n_setn {s : AS} {k : Int} (hk : s.inn k) (p : NP) {j : Int} (hj : s.inn j) : (s.setn k p).n j = if j = k then p else s.n j := by
  obtain ⟨i, hi, _, e⟩ := AS.idx hk
  unfold AS.n AS.setn
  simp only [e]
  by_cases h : j = k
  · rw [if_pos h, h, e, List.getD_eq_getElem?_getD, List.getElem?_set_self hi]
    rfl
  · have hne := AS.idx_ne hj hk h
    rw [e] at hne
    rw [if_neg h, List.getD_eq_getElem?_getD, List.getElem?_set_ne (fun e => hne e.symm), ← List.getD_eq_getElem?_getD]
theorem AS.w_setn {s : AS} {k : Int} (hk : s.inn k) (p : NP) (j : Int) : (s.setn k p).w j = s.w j := by
  obtain ⟨i, hi, _, e⟩ := AS.idx hk
  unfold AS.w AS.setn
  simp only [e]
  by_cases h : (j - 1).toNat = i
  · rw [h, List.getD_eq_getElem?_getD, List.getElem?_set_self hi]
    unfold AS.w
    rw [e]; rfl
  · rw [List.getD_eq_getElem?_getD, List.getElem?_set_ne (fun e => h e.symm), ← List.getD_eq_getElem?_getD]
theorem AS.setn_len (s : AS) (k : Int) (p : NP) : (s.setn k p).sl.length = s.sl.length := by simp [AS.setn]
theorem AS.inn_of_len {s t : AS} (h : t.sl.length = s.sl.length) (j : Int) : t.inn j ↔ s.inn j := by unfold AS.inn; rw [h]
/-- A head and a body are set under a latch that is held. -/
structure SetBoth (s s2 s3 s4 : AS) (k : Int) (p : NP) : Prop where
  e2 : s2.unlE k = 0
  e3 : s3.unlE k = 0
  len : s4.sl.length = s.sl.length
  root : s4.root = s.root
  rd : ∀ j, s.inn j → s4.rd j = if j = k then p else s.n j
theorem set_both {s : AS} {k : Int} (hk : s.inn k) (p : NP) : SetBoth s (s.lockS k (s.w k)) ((s.lockS k (s.w k)).hedS k p.lv p.hi p.ri) (((s.lockS k (s.w k)).hedS k p.lv p.hi p.ri).bodS k p.ks p.vs p.cs) k p := by
  obtain ⟨t1, t2, _⟩ := took_held hk
  have hodd : (s.lockS k (s.w k)).w k % 2 = 1 := by rw [t2]; split <;> omega
  have hl2 : (s.lockS k (s.w k)).sl.length = s.sl.length := by unfold AS.lockS; split; exact AS.setw_len _ _ _; rfl
  have hr2 : (s.lockS k (s.w k)).root = s.root := by unfold AS.lockS; split <;> rfl
  have hn2 : ∀ j, (s.lockS k (s.w k)).n j = s.n j := fun j => by unfold AS.lockS; split; exact AS.n_setw hk _ j; rfl
  generalize s.lockS k (s.w k) = s2 at *
  have e2 : s2.unlE k = 0 := by unfold AS.unlE; rw [if_pos t1, if_neg (by omega)]
  have h3 : s2.hedS k p.lv p.hi p.ri = s2.setn k ((s2.n k).setH p.lv p.hi p.ri) := if_pos e2
  rw [h3]
  have t3 : (s2.setn k ((s2.n k).setH p.lv p.hi p.ri)).inn k := (AS.inn_of_len (AS.setn_len _ _ _) k).2 t1
  have e3 : (s2.setn k ((s2.n k).setH p.lv p.hi p.ri)).unlE k = 0 := by unfold AS.unlE; rw [if_pos t3, if_neg (by rw [AS.w_setn t1]; omega)]
  have h4 : (s2.setn k ((s2.n k).setH p.lv p.hi p.ri)).bodS k p.ks p.vs p.cs = (s2.setn k ((s2.n k).setH p.lv p.hi p.ri)).setn k (((s2.setn k ((s2.n k).setH p.lv p.hi p.ri)).n k).setB p.ks p.vs p.cs) := if_pos e3
  rw [h4]
  refine ⟨e2, e3, by rw [AS.setn_len, AS.setn_len]; exact hl2, hr2, fun j hj => ?_⟩
  have hj2 : s2.inn j := (AS.inn_of_len hl2 j).2 hj
  have hj3 : (s2.setn k ((s2.n k).setH p.lv p.hi p.ri)).inn j := (AS.inn_of_len (AS.setn_len _ _ _) j).2 hj2
  unfold AS.rd
  rw [if_pos ((AS.inn_of_len (AS.setn_len _ _ _) j).2 hj3), AS.n_setn t3 _ hj3]
  by_cases h : j = k
  · rw [if_pos h, if_pos h, AS.n_setn t1 _ t1, if_pos rfl]
    rfl
  · rw [if_neg h, if_neg h, AS.n_setn t1 _ hj2, if_neg h, hn2]
/-- A node's six cells. -/
def Six' (W : World) (b o : Nat) (n : Nd) : Prop := W.cell? ⟨b, o, none⟩ = some (.int .i64 n.lv) ∧ W.cell? ⟨b, o + 1, none⟩ = some n.hi.v ∧ W.cell? ⟨b, o + 2, none⟩ = some (.int .i64 n.ri) ∧ W.cell? ⟨b, o + 3, none⟩ = some n.ks.v ∧ W.cell? ⟨b, o + 4, none⟩ = some n.vs.v ∧ W.cell? ⟨b, o + 5, none⟩ = some n.cs.v
/-- The document's slots, as they lie. -/
theorem AW.slots {K : Nat → Prop} {W : World} {P AX AY : Nat} {s t : AS} (h : AW K W P AX AY s t) : ∃ g c, W.cell? ⟨AY, 1, none⟩ = some (.slice (some ⟨g, 0, none⟩) t.sl.length c) ∧ ∀ i : Nat, i < t.sl.length → ∃ n : Nd, n.Ok W ∧ n.p = t.n ((i : Int) + 1) ∧ Six' W g (i * 7 + 1) n := by
  obtain ⟨F, g, c, M, D, L, h1, h2, _⟩ := h.rx
  refine ⟨g, c, by rw [← ndsR_lenS h2]; exact h1.cells.2.1, fun i hi => ?_⟩
  have hi' : i < L.length := by rw [ndsR_lenS h2]; exact hi
  exact ⟨L[i].n, (h1.sl L[i] (List.getElem_mem hi')).n, ((ndsR_at h2 hi' rfl).2).symm, h1.ncells i hi'⟩

end Go.Proofs.YtibifkindpgkgaaGreat

namespace Go.Proofs.YtibifkindpgkgaaGreat
open Go.RowKit
set_option maxRecDepth 100000

def AnyB (w : World) (e : Ending) (w' : World) : Prop := ∃ bb : Bool, e = .returned (.bool bb) ∧ Below w.heap.size w w'
def AnyD (w : World) (e : Ending) (w' : World) : Prop := ∃ bb : Bool, e = .returned (.bool bb) ∧ ∃ m, w' = w.drewN m
set_option maxRecDepth 100000 in
set_option maxHeartbeats 1600000 in
theorem sameTexts_g (a b : Option Addr) (l l2 c d : Nat) (K L : List Tx) (w : World) (hK : (⟨a, c, K⟩ : TL).Ok w) (hL : (⟨b, d, L⟩ : TL).Ok w) (hlk : K.length = l) (hll : L.length = l2) (hz : l * 24 ≤ 140737488355000) (hz2 : l2 * 24 ≤ 140737488355000) :
    Calls Tryz.prog 117 #[.slice a l c, .slice b l2 d] w (AnyD w) := by
  have HK := hide hK
  have HL := hide hL
  replace hlk := hide hlk
  replace hll := hide hll
  clear hK hL
  by_cases hq : l = l2
  · subst hq
    go_enter Tryz.func117, Tryz.ntmps117
    go_wp2
    go_loopw [5] (fun q wr => ∃ i m : Nat, i ≤ l ∧ q = .int .i64 (i : Int) ∧ wr = w.drewN m) (fun q _ => l - (intOf q).toNat)
    case atStart => exact ⟨0, 0, Nat.zero_le _, rfl, rfl⟩
    case round =>
      obtain ⟨i, m, hi, rfl, rfl⟩ := hrel
      by_cases hlt : i < l
      · have j1 : (i : Int) < (l : Int) := by omega
        have h1 : i < K.length := by rw [hlk.out]; exact hlt
        have h2 : i < L.length := by rw [hll.out]; exact hlt
        obtain ⟨b1, o1, ha1, s1⟩ := HK.out.r i h1
        obtain ⟨b2, o2, ha2, s2⟩ := HL.out.r i h2
        simp only at ha1 ha2
        subst ha1
        subst ha2
        have O1 := hide (HK.out.ok K[i] (List.getElem_mem h1))
        have O2 := hide (HL.out.ok L[i] (List.getElem_mem h2))
        obtain ⟨x, hx⟩ : ∃ x, K[i] = x := ⟨_, rfl⟩
        obtain ⟨y, hy⟩ : ∃ y, L[i] = y := ⟨_, rfl⟩
        simp only [hx, hy] at s1 s2 O1 O2
        clear hx hy
        unfold Tx.v at s1 s2
        have k1 : ∀ q, (convert 39 9 (.slice x.a x.s.length x.c)).run Tryz.prog (w.drewN q) = .ok (.string (strOfNums x.s)) (w.drewN q) := fun q => nconv_row x.c rfl O1.out.r
        have k2 : ∀ q, (convert 39 9 (.slice y.a y.s.length y.c)).run Tryz.prog (w.drewN q) = .ok (.string (strOfNums y.s)) (w.drewN q) := fun q => nconv_row y.c rfl O2.out.r
        generalize strOfNums x.s = st at *
        generalize strOfNums y.s = st2 at *
        generalize x.a = xa at *
        generalize x.c = xc at *
        generalize y.a = ya at *
        generalize y.c = yc at *
        generalize x.s.length = xl at *
        generalize y.s.length = yl at *
        go_wp2
        go_quiet (fail)
        go_wp2
        · go_ret
          exact ⟨_, rfl, _, World.drewN_drewN _ _ _⟩
        · go_roundw
          case rel => exact ⟨i + 1, _, by omega, by go_num, rfl⟩
          case measure => simp [intOf]; omega
      · have j1 : ¬ (i : Int) < (l : Int) := by omega
        go_wp2
        go_ret
        exact ⟨_, rfl, _, rfl⟩
  · have hq2 : ¬ (l : Int) = (l2 : Int) := by omega
    go_enter Tryz.func117, Tryz.ntmps117
    go_wp2
    go_ret
    exact ⟨_, rfl, 0, rfl⟩

set_option maxRecDepth 100000 in
set_option maxHeartbeats 1600000 in
theorem sameHead_g (lv ri lv2 ri2 : Int) (a b : Option Addr) (l l2 c d : Nat) (s s2 : List Int) (w : World) (hl : s.length = l) (hl2 : s2.length = l2) (ha : Row w .u8 a s) (hb : Row w .u8 b s2) :
    Calls Tryz.prog 84 #[.agg #[.int .i64 lv, .slice a l c, .int .i64 ri], .agg #[.int .i64 lv2, .slice b l2 d, .int .i64 ri2]] w (AnyB w) := by
  have HK : Hid (∀ W, Below w.heap.size w W → (convert 39 9 (.slice a l c)).run Tryz.prog W = .ok (.string (strOfNums s)) W) := fun W h => nconv_row c hl (ha.below2 h)
  have HL : Hid (∀ W, Below w.heap.size w W → (convert 39 9 (.slice b l2 d)).run Tryz.prog W = .ok (.string (strOfNums s2)) W) := fun W h => nconv_row d hl2 (hb.below2 h)
  clear ha hb hl hl2
  have k1 := HK.out _ (((Below.refl w.heap.size w).alloc (Nat.le_refl _) (.cells #[.int .i64 lv, .slice a l c, .int .i64 ri] 55)).alloc (by simp) (.cells #[.int .i64 lv2, .slice b l2 d, .int .i64 ri2] 55))
  have k2 := HL.out _ (((Below.refl w.heap.size w).alloc (Nat.le_refl _) (.cells #[.int .i64 lv, .slice a l c, .int .i64 ri] 55)).alloc (by simp) (.cells #[.int .i64 lv2, .slice b l2 d, .int .i64 ri2] 55))
  generalize strOfNums s = st at *
  generalize strOfNums s2 = st2 at *
  by_cases h1 : lv = lv2
  · subst h1
    go_enter Tryz.func84, Tryz.ntmps84
    go_wp2
    all_goals
      go_ret
      exact ⟨_, rfl, ((Below.refl _ _).alloc (Nat.le_refl _) _).alloc (by simp) _⟩
  · go_enter Tryz.func84, Tryz.ntmps84
    go_wp2
    go_ret
    exact ⟨_, rfl, ((Below.refl _ _).alloc (Nat.le_refl _) _).alloc (by simp) _⟩

set_option maxRecDepth 100000 in
set_option maxHeartbeats 1600000 in
theorem sameBody_g (n m : Nd) (w : World) (hn : n.Ok w) (hm : m.Ok w) :
    Calls Tryz.prog 85 #[.agg #[n.ks.v, n.vs.v, n.cs.v], .agg #[m.ks.v, m.vs.v, m.cs.v]] w (AnyB w) := by
  obtain ⟨lv, hi, ri, ⟨ka, kc, K⟩, ⟨va, vc, V⟩, ⟨ca, cc, C⟩⟩ := n
  obtain ⟨lv', hi', ri', ⟨ka', kc', K'⟩, ⟨va', vc', V'⟩, ⟨ca', cc', C'⟩⟩ := m
  have hkz := hn.kz
  have hvz := hn.vz
  have hcz := hn.cz
  have hkz' := hm.kz
  have hvz' := hm.vz
  have hcz' := hm.cz
  simp only at hkz hvz hcz hkz' hvz' hcz'
  have HKK : Hid (∀ W, Below w.heap.size w W → Calls Tryz.prog 117 #[.slice ka K.length kc, .slice ka' K'.length kc'] W (AnyD W)) := fun W h => sameTexts_g ka ka' K.length K'.length kc kc' K K' W (hn.k.below h) (hm.k.below h) rfl rfl (by omega) (by omega)
  have HVV : Hid (∀ W, Below w.heap.size w W → Calls Tryz.prog 117 #[.slice va V.length vc, .slice va' V'.length vc'] W (AnyD W)) := fun W h => sameTexts_g va va' V.length V'.length vc vc' V V' W (hn.v.below h) (hm.v.below h) rfl rfl (by omega) (by omega)
  have HC1 : Hid (∀ W, Below w.heap.size w W → Row W .i64 ca C) := fun W h => (hn.c.below h).r
  have HC2 : Hid (∀ W, Below w.heap.size w W → Row W .i64 ca' C') := fun W h => (hm.c.below h).r
  simp only [TL.v, IL.v]
  clear hn hm hkz hvz hkz' hvz'
  generalize K.length = lk at *
  generalize V.length = lw at *
  generalize K'.length = lk' at *
  generalize V'.length = lw' at *
  obtain ⟨lc, hlc⟩ : ∃ lc, C.length = lc := ⟨_, rfl⟩
  obtain ⟨lc', hlc'⟩ : ∃ lc, C'.length = lc := ⟨_, rfl⟩
  rw [hlc] at hcz ⊢
  rw [hlc'] at hcz' ⊢
  replace hlc := hide hlc
  replace hlc' := hide hlc'
  obtain ⟨w0, hw0⟩ : ∃ w0, w0 = w.alloc (.cells #[.slice ka lk kc, .slice va lw vc, .slice ca lc cc] 59) := ⟨_, rfl⟩
  obtain ⟨w1, hw1⟩ : ∃ w1, w1 = w0.alloc (.cells #[.slice ka' lk' kc', .slice va' lw' vc', .slice ca' lc' cc'] 59) := ⟨_, rfl⟩
  have z0 : w0.heap.size = w.heap.size + 1 := by rw [hw0]; simp
  have b0 : Below w.heap.size w w0 := by rw [hw0]; exact (Below.refl _ _).alloc (Nat.le_refl _) _
  have b1 : Below w0.heap.size w0 w1 := by rw [hw1]; exact (Below.refl _ _).alloc (Nat.le_refl _) _
  have B1 : Hid (Below w.heap.size w w1) := b0.trans (b1.mono b0.size)
  have g0 : w0.heap[w.heap.size]? = some (.cells #[.slice ka lk kc, .slice va lw vc, .slice ca lc cc] 59 (0, 0)) := by rw [hw0]; exact heap_alloc_new w _
  have g1 : w1.heap[w.heap.size + 1]? = some (.cells #[.slice ka' lk' kc', .slice va' lw' vc', .slice ca' lc' cc'] 59 (0, 0)) := by rw [← z0, hw1]; exact heap_alloc_new w0 _
  have A1 := (b1.block _ (by omega)).trans g0
  obtain ⟨c0, c1, c2⟩ := three_new A1
  obtain ⟨d0, d1, d2⟩ := three_new g1
  have HW : Hid ((w.alloc (.cells #[.slice ka lk kc, .slice va lw vc, .slice ca lc cc] 59)).alloc (.cells #[.slice ka' lk' kc', .slice va' lw' vc', .slice ca' lc' cc'] 59) = w1) := by show _ = _; rw [hw1, hw0]
  clear hw0 hw1 z0 b0 b1 g0 g1 A1
  go_enter Tryz.func85, Tryz.ntmps85
  go_wp2_with fail
  rw [HW.out]
  refine (HKK.out w1 B1.out).mono ?_
  rintro e w2 ⟨bk, rfl, q, rfl⟩
  clear HW HKK
  go_wp2_with fail
  refine (HVV.out (w1.drewN q) (below_drewN B1.out q)).mono ?_
  rintro e w2 ⟨bv, rfl, q2, rfl⟩
  clear HVV
  cases bk with
  | false =>
    go_wp2_with fail
    go_ret
    exact ⟨_, rfl, by first | exact below_drewN B1.out _ | exact below_drewN (below_drewN B1.out _) _⟩
  | true =>
    cases bv with
    | false =>
      go_wp2_with fail
      go_ret
      exact ⟨_, rfl, by first | exact below_drewN B1.out _ | exact below_drewN (below_drewN B1.out _) _⟩
    | true =>
      by_cases hq : lc = lc'
      · subst hq
        go_wp2_with fail
        go_loopw [7] (fun x wr => ∃ i m : Nat, i ≤ lc ∧ x = .int .i64 (i : Int) ∧ wr = w1.drewN m) (fun x _ => lc - (intOf x).toNat)
        case atStart => exact ⟨0, q + q2, Nat.zero_le _, rfl, rfl⟩
        case round =>
          obtain ⟨i, m, hi, rfl, rfl⟩ := hrel
          by_cases hlt : i < lc
          · have j1 : (i : Int) < (lc : Int) := by omega
            obtain ⟨p1, o1, ha1, s1⟩ := HC1.out w1 B1.out i (by rw [hlc.out]; exact hlt)
            obtain ⟨p2, o2, ha2, s2⟩ := HC2.out w1 B1.out i (by rw [hlc'.out]; exact hlt)
            subst ha1
            subst ha2
            generalize C.getD i 0 = x at *
            generalize C'.getD i 0 = y at *
            by_cases hxy : x = y
            · subst hxy
              go_wp2
              go_quiet (fail)
              go_wp2
              go_roundw
              case rel => exact ⟨i + 1, _, by omega, by go_num, rfl⟩
              case measure => simp [intOf]; omega
            · go_wp2
              go_quiet (fail)
              go_wp2
              go_ret
              exact ⟨_, rfl, by first | exact below_drewN B1.out _ | exact below_drewN (below_drewN B1.out _) _⟩
          · have j1 : ¬ (i : Int) < (lc : Int) := by omega
            go_wp2
            go_ret
            exact ⟨_, rfl, below_drewN B1.out _⟩
      · have hq2 : ¬ (lc : Int) = (lc' : Int) := by omega
        go_wp2_with fail
        go_ret
        exact ⟨_, rfl, by first | exact below_drewN B1.out _ | exact below_drewN (below_drewN B1.out _) _⟩
set_option maxRecDepth 100000 in
set_option maxHeartbeats 1600000 in
theorem sameNode_g (n m : Nd) (w : World) (hn : n.Ok w) (hm : m.Ok w) :
    Calls Tryz.prog 29 #[n.v, m.v] w (AnyB w) := by
  have HBD : Hid (∀ W, Below w.heap.size w W → Calls Tryz.prog 85 #[.agg #[n.ks.v, n.vs.v, n.cs.v], .agg #[m.ks.v, m.vs.v, m.cs.v]] W (AnyB W)) := fun W hb => sameBody_g n m W (hn.below hb) (hm.below hb)
  obtain ⟨lv, ⟨ha, hc, hs⟩, ri, ⟨ka, kc, K⟩, ⟨va, vc, V⟩, ⟨ca, cc, C⟩⟩ := n
  obtain ⟨lv', ⟨ha', hc', hs'⟩, ri', ⟨ka', kc', K'⟩, ⟨va', vc', V'⟩, ⟨ca', cc', C'⟩⟩ := m
  have HHD : Hid (∀ W, Below w.heap.size w W → Calls Tryz.prog 84 #[.agg #[.int .i64 lv, .slice ha hs.length hc, .int .i64 ri], .agg #[.int .i64 lv', .slice ha' hs'.length hc', .int .i64 ri']] W (AnyB W)) := fun W hb => sameHead_g lv ri lv' ri' ha ha' hs.length hs'.length hc hc' hs hs' W rfl rfl (hn.h.below hb).r (hm.h.below hb).r
  clear hn hm
  simp only [Nd.v, Tx.v, TL.v, IL.v] at *
  generalize hs.length = lh at *
  generalize K.length = lk at *
  generalize V.length = lw at *
  generalize C.length = lc at *
  generalize hs'.length = lh' at *
  generalize K'.length = lk' at *
  generalize V'.length = lw' at *
  generalize C'.length = lc' at *
  obtain ⟨w0, hw0⟩ : ∃ w0, w0 = w.alloc (.cells #[.int .i64 lv, .slice ha lh hc, .int .i64 ri, .slice ka lk kc, .slice va lw vc, .slice ca lc cc] 61) := ⟨_, rfl⟩
  obtain ⟨w1, hw1⟩ : ∃ w1, w1 = w0.alloc (.cells #[.int .i64 lv', .slice ha' lh' hc', .int .i64 ri', .slice ka' lk' kc', .slice va' lw' vc', .slice ca' lc' cc'] 61) := ⟨_, rfl⟩
  have z0 : w0.heap.size = w.heap.size + 1 := by rw [hw0]; simp
  have b0 : Below w.heap.size w w0 := by rw [hw0]; exact (Below.refl _ _).alloc (Nat.le_refl _) _
  have b1 : Below w0.heap.size w0 w1 := by rw [hw1]; exact (Below.refl _ _).alloc (Nat.le_refl _) _
  have B1 : Hid (Below w.heap.size w w1) := b0.trans (b1.mono b0.size)
  have g0 : w1.heap[w.heap.size]? = some (.cells #[.int .i64 lv, .slice ha lh hc, .int .i64 ri, .slice ka lk kc, .slice va lw vc, .slice ca lc cc] 61 (0, 0)) := (b1.block _ (by omega)).trans (by rw [hw0]; exact heap_alloc_new w _)
  have g1 : w1.heap[w.heap.size + 1]? = some (.cells #[.int .i64 lv', .slice ha' lh' hc', .int .i64 ri', .slice ka' lk' kc', .slice va' lw' vc', .slice ca' lc' cc'] 61 (0, 0)) := by rw [← z0, hw1]; exact heap_alloc_new w0 _
  have G0 := hide g0
  have G1 := hide g1
  have HW : Hid ((w.alloc (.cells #[.int .i64 lv, .slice ha lh hc, .int .i64 ri, .slice ka lk kc, .slice va lw vc, .slice ca lc cc] 61)).alloc (.cells #[.int .i64 lv', .slice ha' lh' hc', .int .i64 ri', .slice ka' lk' kc', .slice va' lw' vc', .slice ca' lc' cc'] 61) = w1) := by show _ = _; rw [hw1, hw0]
  clear hw0 hw1 z0 b0 b1 g0 g1
  go_enter Tryz.func29, Tryz.ntmps29
  go_wp2_with fail
  rw [HW.out]
  refine (HHD.out w1 B1.out).mono ?_
  rintro e w2 ⟨b1, rfl, hb2⟩
  have B2 := hide (B1.out.trans (hb2.mono B1.out.size))
  have E0 := (hb2.block _ (lt_of_block G0.out)).trans G0.out
  have E1 := (hb2.block _ (lt_of_block G1.out)).trans G1.out
  have s0 : w2.cell? ⟨w.heap.size, 3, none⟩ = some (.slice ka lk kc) := by rw [cell_of_row _ _ _ _ _ _ E0]; rfl
  have s1 : w2.cell? ⟨w.heap.size, 4, none⟩ = some (.slice va lw vc) := by rw [cell_of_row _ _ _ _ _ _ E0]; rfl
  have s2 : w2.cell? ⟨w.heap.size, 5, none⟩ = some (.slice ca lc cc) := by rw [cell_of_row _ _ _ _ _ _ E0]; rfl
  have s3 : w2.cell? ⟨w.heap.size + 1, 3, none⟩ = some (.slice ka' lk' kc') := by rw [cell_of_row _ _ _ _ _ _ E1]; rfl
  have s4 : w2.cell? ⟨w.heap.size + 1, 4, none⟩ = some (.slice va' lw' vc') := by rw [cell_of_row _ _ _ _ _ _ E1]; rfl
  have s5 : w2.cell? ⟨w.heap.size + 1, 5, none⟩ = some (.slice ca' lc' cc') := by rw [cell_of_row _ _ _ _ _ _ E1]; rfl
  clear hb2 E0 E1 HW HHD
  go_wp2_with fail
  refine (HBD.out w2 B2.out).mono ?_
  rintro e w3 ⟨b2, rfl, hb3⟩
  have B3 := hide (B2.out.trans (hb3.mono B2.out.size))
  clear hb3
  cases b1 with
  | false =>
    go_wp2_with fail
    go_ret
    exact ⟨_, rfl, B3.out⟩
  | true =>
    go_wp2_with fail
    go_ret
    exact ⟨_, rfl, B3.out⟩
/-- It answers, and true where both say the same. -/
theorem sameNode_b (n m : Nd) (w : World) (hn : n.Ok w) (hm : m.Ok w) :
    Calls Tryz.prog 29 #[n.v, m.v] w fun e w' => ∃ bb : Bool, e = .returned (.bool bb) ∧ (n.p = m.p → bb = true) ∧ Below w.heap.size w w' := by
  by_cases h : n.p = m.p
  · exact (sameNode_any n m w hn hm h).mono fun e w' ⟨h1, h2⟩ => ⟨true, h1, fun _ => rfl, h2⟩
  · exact (sameNode_g n m w hn hm).mono fun e w' ⟨bb, h1, h2⟩ => ⟨bb, h1, fun e => absurd e h, h2⟩


/-- Slot id, from s on to t: its word is d more; d is at most m, and where it is none the node is as it was. -/
structure Since (s t : AS) (id : Int) (m : Nat) : Prop where
  inn : t.inn id
  d : ∃ d, d ≤ m ∧ t.w id = (s.w id + d) % 18446744073709551616 ∧ (d = 0 → t.n id = s.n id)
theorem AS.w_setw {s : AS} {k : Int} (hk : s.inn k) (x : Nat) {j : Int} (hj : s.inn j) : (s.setw k x).w j = if j = k then x else s.w j := by
  by_cases h : j = k
  · rw [if_pos h, h]; exact AS.setw_w hk
  · rw [if_neg h]
    obtain ⟨i, hi, _, e⟩ := AS.idx hk
    have hne := AS.idx_ne hj hk h
    unfold AS.w AS.setw
    simp only [e]
    rw [e] at hne
    rw [List.getD_eq_getElem?_getD, List.getElem?_set_ne (fun e => hne e.symm), ← List.getD_eq_getElem?_getD]
section
variable {s t : AS} {id : Int} {m : Nat}
theorem Since.mono {m' : Nat} (h : Since s t id m) (hm : m ≤ m') : Since s t id m' := by
  obtain ⟨d, h1, h2⟩ := h.d
  exact ⟨h.inn, d, by omega, h2⟩
/-- A word turns by one more. -/
theorem Since.bump (h : Since s t id m) {k : Int} (hk : t.inn k) {x : Nat} (hx : x = (t.w k + 1) % 18446744073709551616) : Since s (t.setw k x) id (m + 1) := by
  obtain ⟨d, h1, h2, h3⟩ := h.d
  refine ⟨AS.setw_inn h.inn, ?_⟩
  by_cases e : id = k
  · refine ⟨d + 1, by omega, ?_, fun e => by omega⟩
    rw [AS.w_setw hk x h.inn, if_pos e, hx, ← e, h2]
    omega
  · refine ⟨d, by omega, ?_, fun e0 => ?_⟩
    · rw [AS.w_setw hk x h.inn, if_neg e]; exact h2
    · rw [AS.n_setw hk]; exact h3 e0
/-- A node turns under a latch that is held. -/
theorem Since.turn (h : Since s t id m) (he : s.w id % 2 = 0) (_hs : s.w id < 18446744073709551616) {k : Int} (hk : t.inn k) (ho : t.w k % 2 = 1) (p : NP) : Since s (t.setn k p) id m := by
  obtain ⟨d, h1, h2, h3⟩ := h.d
  refine ⟨(AS.inn_of_len (AS.setn_len _ _ _) id).2 h.inn, d, h1, by rw [AS.w_setn hk]; exact h2, fun e0 => ?_⟩
  have hne : id ≠ k := fun e => by
    subst e0
    rw [← e, h2] at ho
    omega
  rw [AS.n_setn hk p h.inn, if_neg hne]
  exact h3 e0
theorem Since.lock (h : Since s t id m) (k : Int) (x : Nat) (hx : x < 18446744073709551616) : Since s (t.lockS k x) id (m + 1) := by
  unfold AS.lockS
  split
  · rename_i hc
    refine h.bump hc.1 ?_
    rw [hc.2.1]
    have := hc.2.2
    omega
  · exact h.mono (by omega)
theorem Since.unl (h : Since s t id m) (k : Int) : Since s (t.unlS k true) id (m + 1) := by
  unfold AS.unlS
  split
  · rename_i hE
    refine h.bump (unl_in hE).1 ?_
    unfold freeW
    simp
  · exact h.mono (by omega)
theorem Since.hed (h : Since s t id m) (he : s.w id % 2 = 0) (hs : s.w id < 18446744073709551616) (k lv : Int) (hi : List Int) (ri : Int) : Since s (t.hedS k lv hi ri) id m := by
  unfold AS.hedS
  split
  · rename_i hE
    exact h.turn he hs (unl_in hE).1 (unl_in hE).2 _
  · exact h
theorem Since.bod (h : Since s t id m) (he : s.w id % 2 = 0) (hs : s.w id < 18446744073709551616) (k : Int) (ks vs : List (List Int)) (cs : List Int) : Since s (t.bodS k ks vs cs) id m := by
  unfold AS.bodS
  split
  · rename_i hE
    exact h.turn he hs (unl_in hE).1 (unl_in hE).2 _
  · exact h
theorem getD_app {α : Type} {l l' : List α} {i : Nat} {d : α} (h : i < l.length) : (l ++ l').getD i d = l.getD i d := by
  rw [List.getD_eq_getElem?_getD, List.getElem?_append_left h, ← List.getD_eq_getElem?_getD]
theorem Since.all (h : Since s t id m) : Since s t.allS id m := by
  unfold AS.allS
  split
  · obtain ⟨d, h1, h2, h3⟩ := h.d
    obtain ⟨i, hi, hid, e⟩ := AS.idx h.inn
    have hw : AS.w ⟨t.nodes, t.root, t.sl ++ [(1, NP.zero)]⟩ id = t.w id := by unfold AS.w; simp only [e]; rw [getD_app hi]
    have hn : AS.n ⟨t.nodes, t.root, t.sl ++ [(1, NP.zero)]⟩ id = t.n id := by unfold AS.n; simp only [e]; rw [getD_app hi]
    refine ⟨?_, d, h1, by rw [hw]; exact h2, fun e0 => by rw [hn]; exact h3 e0⟩
    have := h.inn
    unfold AS.inn at *
    simp only [List.length_append, List.length_singleton]
    omega
  · exact h
theorem Since.fin (h : Since s t id m) (he : s.w id % 2 = 0) (hs : s.w id < 18446744073709551616) (k : Int) (p : NP) : Since s (t.finS k p) id (m + 1) := ((h.hed he hs k _ _ _).bod he hs k _ _ _).unl k
theorem wlt_word (t : AS) (h : ∀ k, t.inn k → t.w k < 18446744073709551616) (k : Int) : t.wordW k < 18446744073709551616 := by
  unfold AS.wordW
  split
  · rename_i hk; exact h k hk
  · decide
theorem Since.raw (h : Since s t id m) (he : s.w id % 2 = 0) (hs : s.w id < 18446744073709551616) (hw : ∀ k, t.inn k → t.w k < 18446744073709551616) (o : AOp) (ho : o.w < 18446744073709551616) (hc : o.ch = true) : Since s (t.raw o) id (m + 2) := by
  unfold AS.raw
  split
  · exact h.all.mono (by omega)
  split
  · exact h.mono (by omega)
  split
  · exact (h.lock _ _ (wadd_lt _ _)).mono (by omega)
  split
  · rw [hc]; exact (h.unl _).mono (by omega)
  split
  · exact (h.hed he hs _ _ _ _).mono (by omega)
  split
  · exact (h.bod he hs _ _ _ _).mono (by omega)
  split
  · refine Since.mono ?_ (Nat.le_refl _) |>.mono (show m ≤ m + 2 by omega)
    unfold AS.groS
    split
    · obtain ⟨d, h1, h2, h3⟩ := h.d
      exact ⟨h.inn, d, h1, h2, h3⟩
    · exact h
  split
  · unfold AS.layS
    split
    · split
      · exact (h.all.fin he hs _ _).mono (by omega)
      · exact h.mono (by omega)
    · exact ((h.lock _ _ (wlt_word t hw _)).fin he hs _ _).mono (by omega)
  · exact (h.lock _ _ ho).mono (by omega)
/-- The same even word: the same node. -/
theorem Since.seen (h : Since s t id m) (hm : m < 18446744073709551616) (_hs : s.w id < 18446744073709551616) (hw : t.w id = s.w id) : t.n id = s.n id := by
  obtain ⟨d, h1, h2, h3⟩ := h.d
  refine h3 ?_
  rw [hw] at h2
  omega
theorem Since.refl (hin : s.inn id) (hs : s.w id < 18446744073709551616) : Since s s id 0 := ⟨hin, 0, Nat.le_refl _, by omega, fun _ => rfl⟩
end


theorem infoW : (Tryz.prog.info? 53).map (fun i => (i.zero, i.size, i.bytes)) = some (some (.int .u64 0), 1, 8) := by kernel_rfl
theorem infoN : (Tryz.prog.info? 61).map (fun i => (i.zero, i.size, i.bytes)) = some (some (.agg #[.int .i64 0, .slice none 0 0, .int .i64 0, .slice none 0 0, .slice none 0 0, .slice none 0 0]), 6, 112) := by kernel_rfl
theorem six_new (w : World) (a0 a1 a2 a3 a4 a5 : Value) (T : TypeId) : ∀ j u, [a0, a1, a2, a3, a4, a5][j]? = some u → (w.alloc (.cells #[a0, a1, a2, a3, a4, a5] T)).cell? ((⟨w.heap.size, 0, none⟩ : Addr).add j) = some u := by
  intro j u hu
  rw [Addr.add_lit, Nat.zero_add, cell_of_row _ _ _ _ _ _ (heap_alloc_new w _), ← Array.getElem?_toList]
  exact hu
def Nd.six (n : Nd) : List Value := [.int .i64 n.lv, n.hi.v, .int .i64 n.ri, n.ks.v, n.vs.v, n.cs.v]
def wsOf (s : AS) (q : Nat) : List Value := (List.range q).map fun (i : Nat) => .int .u64 ((s.w ((i : Int) + 1) : Nat) : Int)
theorem wsOf_next (s : AS) (q : Nat) : wsOf s (q + 1) = wsOf s q ++ [.int .u64 ((s.w ((q : Int) + 1) : Nat) : Int)] := by
  unfold wsOf
  rw [List.range_succ, List.map_append]
  rfl
theorem wsOf_get (s : AS) (q i : Nat) (h : i < q) : (wsOf s q)[i]? = some (.int .u64 ((s.w ((i : Int) + 1) : Nat) : Int)) := by
  unfold wsOf
  rw [List.getElem?_map, List.getElem?_range h]
  rfl
theorem six_get (L : List Nd) (i j : Nat) (hi : i < L.length) (hj : j < 6) : (L.flatMap Nd.six)[i * 6 + j]? = (L[i].six)[j]? := by
  induction L generalizing i with
  | nil => cases hi
  | cons a L ih =>
    rw [List.flatMap_cons]
    cases i with
    | zero =>
      rw [List.getElem?_append_left (by show 0 * 6 + j < 6; omega)]
      simp
    | succ i =>
      rw [List.getElem?_append_right (by show 6 ≤ (i + 1) * 6 + j; omega), show (i + 1) * 6 + j - a.six.length = i * 6 + j by show (i + 1) * 6 + j - 6 = _; omega]
      exact ih i (by simpa using hi)
theorem Nd.In.and {D E : Nat → Prop} {n : Nd} (h : n.In D) (g : n.In E) : n.In (fun k => D k ∧ E k) :=
  ⟨fun x e l => ⟨h.h x e l, g.h x e l⟩, fun x e l => ⟨h.k x e l, g.k x e l⟩, fun t ht x e l => ⟨h.ke t ht x e l, g.ke t ht x e l⟩, fun x e l => ⟨h.v x e l, g.v x e l⟩, fun t ht x e l => ⟨h.ve t ht x e l, g.ve t ht x e l⟩, fun x e l => ⟨h.c x e l, g.c x e l⟩⟩

/-- The rows: the words of q slots, the nodes R; the nodes M have been read. -/
structure Rec (s : AS) (base : Nat) (W : World) (R M : List Nd) (q : Nat) (vw vn : Value) : Prop where
  w : W.ownsRow base 53 1 vw q (wsOf s q)
  n : W.ownsRow base 61 6 vn R.length (R.flatMap Nd.six)
  ok : ∀ m ∈ M, m.Ok W
  i : ∀ m ∈ M, m.In (fun k => base ≤ k ∧ vw.ownBlock ≠ some k ∧ vn.ownBlock ≠ some k)
  ne : ∀ k, vw.ownBlock = some k → vn.ownBlock ≠ some k
  p : ∀ i (h : i < M.length), M[i].p = s.n ((i : Int) + 1)
section
variable {s : AS} {base : Nat} {W W' : World} {R M : List Nd} {q : Nat} {vw vn : Value}
theorem Rec.nil (s : AS) (base : Nat) (W : World) : Rec s base W [] [] 0 (.slice none 0 0) (.slice none 0 0) :=
  ⟨World.ownsRow_nil _ _ _ _, World.ownsRow_nil _ _ _ _, (fun _ h => nomatch h), (fun _ h => nomatch h), (fun _ h => nomatch h), (fun _ h => nomatch h)⟩
theorem Rec.below (h : Rec s base W R M q vw vn) (hb : Below W.heap.size W W') : Rec s base W' R M q vw vn :=
  ⟨owns_blkN h.w (fun k hk => hb.block k (h.w.lt k hk).2), owns_blkN h.n (fun k hk => hb.block k (h.n.lt k hk).2), fun m hm => (h.ok m hm).below hb, h.i, h.ne, h.p⟩
theorem Rec.kept {K : Nat → Prop} (h : Rec s base W R M q vw vn) (hU : Upd (fun k => ¬ K k) W W') (hK : ∀ k, base ≤ k → k < W.heap.size → K k) : Rec s base W' R M q vw vn :=
  ⟨owns_blkN h.w (fun k hk => hU.block k (h.w.lt k hk).2 (fun e => e (hK k (h.w.lt k hk).1 (h.w.lt k hk).2))), owns_blkN h.n (fun k hk => hU.block k (h.n.lt k hk).2 (fun e => e (hK k (h.n.lt k hk).1 (h.n.lt k hk).2))),
    fun m hm => (h.ok m hm).upd ((h.i m hm).and (h.ok m hm).in_) hU (fun k hk e => e (hK k hk.1.1 hk.2)), h.i, h.ne, h.p⟩
theorem Rec.add (h : Rec s base W R M q vw vn) (hb : Below W.heap.size W W') (m : Nd) (hm : m.Ok W') (hi : m.In (fun k => W.heap.size ≤ k)) (hp : m.p = s.n ((M.length : Int) + 1)) (hbase : base ≤ W.heap.size) : Rec s base W' R (M ++ [m]) q vw vn := by
  have h1 := h.below hb
  refine ⟨h1.w, h1.n, fun x hx => ?_, fun x hx => ?_, h.ne, fun i hi => ?_⟩
  · rcases List.mem_append.1 hx with hx | hx
    · exact h1.ok x hx
    · obtain rfl := List.mem_singleton.1 hx; exact hm
  · rcases List.mem_append.1 hx with hx | hx
    · exact h1.i x hx
    · obtain rfl := List.mem_singleton.1 hx
      exact hi.mono (fun k hk => ⟨by omega, fun e => by have := (h.w.lt k e).2; omega, fun e => by have := (h.n.lt k e).2; omega⟩)
  · by_cases hl : i < M.length
    · rw [List.getElem_append_left hl]; exact h.p i hl
    · rw [List.getElem_append_right (by omega)]
      have : i = M.length := by simp at hi; omega
      subst this
      simp [hp]
theorem Rec.word (h : Rec s base W R M q vw vn) {g c : Nat} (ho : W'.ownsRow base 53 1 (.slice (some ⟨g, 0, none⟩) (q + 1) c) (q + 1) (wsOf s q ++ [.int .u64 ((s.w ((q : Int) + 1) : Nat) : Int)])) (hg : W.grownBy W' vw.ownBlock) (hor : vw.ownBlock = some g ∨ W.heap.size ≤ g) : Rec s base W' R M (q + 1) (.slice (some ⟨g, 0, none⟩) (q + 1) c) vn := by
  refine ⟨by rw [wsOf_next]; exact ho, owns_blkN h.n (fun k hk => hg.block k (h.n.lt k hk).2 (fun e => h.ne k e.symm hk)), fun m hm => (h.ok m hm).upd (h.i m hm) (Upd.of_grown (S := fun k => vw.ownBlock = some k) hg (fun k hk _ => hk)) (fun k hk e => hk.2.1 e), fun m hm => ?_, fun k hk e => ?_, h.p⟩
  · refine ((h.i m hm).and (h.ok m hm).in_).mono (fun k hk => ⟨hk.1.1, fun e => ?_, hk.1.2.2⟩)
    obtain rfl : g = k := Option.some.inj e
    rcases hor with hor | hor
    · exact hk.1.2.1 hor
    · have := hk.2; omega
  · obtain rfl : g = k := Option.some.inj hk
    rcases hor with hor | hor
    · exact h.ne g hor e
    · have := (h.n.lt g e).2; omega
theorem Rec.node (h : Rec s base W R M q vw vn) {g c : Nat} (m : Nd) (ho : W'.ownsRow base 61 6 (.slice (some ⟨g, 0, none⟩) (R.length + 1) c) (R.length + 1) (R.flatMap Nd.six ++ m.six)) (hg : W.grownBy W' vn.ownBlock) (hor : vn.ownBlock = some g ∨ W.heap.size ≤ g) : Rec s base W' (R ++ [m]) M q vw (.slice (some ⟨g, 0, none⟩) (R.length + 1) c) := by
  refine ⟨owns_blkN h.w (fun k hk => hg.block k (h.w.lt k hk).2 (fun e => h.ne k hk e.symm)), ?_, fun m hm => (h.ok m hm).upd (h.i m hm) (Upd.of_grown (S := fun k => vn.ownBlock = some k) hg (fun k hk _ => hk)) (fun k hk e => hk.2.2 e), fun m hm => ?_, fun k hk e => ?_, h.p⟩
  · rw [List.flatMap_append, List.flatMap_singleton, List.length_append, List.length_singleton]; exact ho
  · refine ((h.i m hm).and (h.ok m hm).in_).mono (fun k hk => ⟨hk.1.1, hk.1.2.1, fun e => ?_⟩)
    obtain rfl : g = k := Option.some.inj e
    rcases hor with hor | hor
    · exact hk.1.2.2 hor
    · have := hk.2; omega
  · obtain rfl : g = k := Option.some.inj e
    rcases hor with hor | hor
    · exact h.ne g hk hor
    · have := (h.w.lt g hk).2; omega
/-- What is read of them. -/
theorem Rec.look {j cw cn : Nat} {aw an : Option Addr} (h : Rec s base W M M j (.slice aw j cw) (.slice an j cn)) (hl : M.length = j) (i : Nat) (hi : i < M.length) : ∃ gw gn, aw = some ⟨gw, 0, none⟩ ∧ an = some ⟨gn, 0, none⟩ ∧ W.cell? ⟨gw, i, none⟩ = some (.int .u64 ((s.w ((i : Int) + 1) : Nat) : Int)) ∧ Six' W gn (i * 6) M[i] ∧ M[i].Ok W ∧ M[i].p = s.n ((i : Int) + 1) := by
  have e1 : ∃ gw, aw = some ⟨gw, 0, none⟩ := by
    rcases h.w.2 with ⟨hv, h0⟩ | ⟨g, cap, cur, hv, _⟩
    · omega
    · cases hv; exact ⟨g, rfl⟩
  have e2 : ∃ gw, an = some ⟨gw, 0, none⟩ := by
    rcases h.n.2 with ⟨hv, h0⟩ | ⟨g, cap, cur, hv, _⟩
    · omega
    · cases hv; exact ⟨g, rfl⟩
  obtain ⟨gw, rfl⟩ := e1
  obtain ⟨gn, rfl⟩ := e2
  have c1 := h.w.cells rfl i _ (wsOf_get s j i (by omega))
  have c2 : ∀ k u, k < 6 → (M[i].six)[k]? = some u → W.cell? ⟨gn, i * 6 + k, none⟩ = some u := fun k u hk hu => by
    have := h.n.cells rfl (i * 6 + k) u (by rw [six_get M i k hi hk]; exact hu)
    rw [Addr.add_lit, Nat.zero_add] at this
    exact this
  rw [Addr.add_lit, Nat.zero_add] at c1
  exact ⟨gw, gn, rfl, rfl, c1, ⟨c2 0 _ (by decide) rfl, c2 1 _ (by decide) rfl, c2 2 _ (by decide) rfl, c2 3 _ (by decide) rfl, c2 4 _ (by decide) rfl, c2 5 _ (by decide) rfl⟩, h.ok _ (List.getElem_mem hi), h.p i hi⟩
end
/-- A node of one's own, from its two halves. -/
theorem nd_own {W0 W1 W2 W3 W : World} {q : NP} {t : Tx} {k v : TL} {c : IL} (h1 : t.s = q.hi) (h2 : OwnB W1 W0.heap.size 5 t.v t.s) (h3 : B8 t.s) (h4 : t.s.length ≤ 140737488351232)
    (k1 : k.p = q.ks) (k2 : v.p = q.vs) (k3 : c.s = q.cs) (o1 : k.Own W3 W2.heap.size) (o2 : v.Own W3 W2.heap.size) (o3 : W3.ownsRow W2.heap.size 3 1 c.v c.s.length (c.s.map (Value.int .i64)))
    (z : k.L.length * 24 ≤ 140737488352000 ∧ v.L.length * 24 ≤ 140737488352000 ∧ c.s.length * 8 ≤ 140737488352000) (b1 : Below W1.heap.size W1 W) (b3 : Below W3.heap.size W3 W) (hz : W0.heap.size ≤ W2.heap.size) :
    (⟨q.lv, t, q.ri, k, v, c⟩ : Nd).Ok W ∧ (⟨q.lv, t, q.ri, k, v, c⟩ : Nd).In (fun k => W0.heap.size ≤ k) ∧ (⟨q.lv, t, q.ri, k, v, c⟩ : Nd).p = q := by
  have oW : (⟨q.lv, ⟨none, 0, []⟩, q.ri, k, v, c⟩ : Nd).Ok W := (show (⟨q.lv, ⟨none, 0, []⟩, q.ri, k, v, c⟩ : Nd).Ok W3 from ⟨Tx.nil_ok _, o1.ok, o2.ok, il_of_owns o3, z.1, z.2.1, z.2.2⟩).below b3
  refine ⟨⟨ownB_ok (h2.below b1) h3 h4, oW.k, oW.v, oW.c, z.1, z.2.1, z.2.2⟩, ⟨fun x e _ => (ownB_in h2 x e).1, fun x e _ => ?_, fun t ht x e _ => ?_, fun x e _ => ?_, fun t ht x e _ => ?_, fun x e _ => ?_⟩, ?_⟩
  · have := (owns_in o1.row x e).1; omega
  · have := (ownB_in (o1.each t ht) x e).1; omega
  · have := (owns_in o2.row x e).1; omega
  · have := (ownB_in (o2.each t ht) x e).1; omega
  · have := (owns_in o3 x e).1; omega
  · obtain ⟨q1, q2, q3, q4, q5, q6⟩ := q
    simp only [Nd.p, NP.mk.injEq]
    exact ⟨trivial, h1, trivial, k1, k2, k3⟩

end Go.Proofs.YtibifkindpgkgaaGreat
