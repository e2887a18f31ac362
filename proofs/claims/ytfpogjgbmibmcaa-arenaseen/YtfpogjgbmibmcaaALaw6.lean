/- The statements' Raw: one call of both. -/
import Derived.Test.YtfpogjgbmibmcaaALaw3
namespace Go.Proofs.Ytfpogjgbmibmcaa
open Go.RowKit
section
variable {K : Nat → Prop} {W : World} {P AX AY : Nat} {s : AS}
set_option maxRecDepth 100000 in
set_option maxHeartbeats 3200000 in
theorem raw6 (h : AW K W P AX AY s s) (o : AOp) (ho : o.Ok K W) (hk : pickN o.kind 9 = 6) : Calls Try.prog 10 #[.pointer (some ⟨P, 0, none⟩), o.v] W (AwPost K W P AX AY (s.groS (s.id o.a) (s.id o.b))) := by
  obtain ⟨kd, ra, rb, rw', ch, n⟩ := o
  obtain ⟨⟨k1, k2⟩, ⟨a1, a2⟩, ⟨b1, b2⟩, w1, hn, hi⟩ := ho
  simp only at hk k1 k2 a1 a2 b1 b2 w1 hn hi
  simp only [AOp.v]
  have hid : s.id ra = ((pickN ra (s.sl.length + 2) : Nat) : Int) := rfl
  obtain ⟨w0, hw0⟩ : ∃ w0, w0 = W.alloc (.cells #[.int .i64 kd, .int .i64 ra, .int .i64 rb, .int .u64 (rw' : Nat), .bool ch, .int .i64 n.lv, n.hi.v, .int .i64 n.ri, n.ks.v, n.vs.v, n.cs.v] 39) := ⟨_, rfl⟩
  have b0 : Below W.heap.size W w0 := by rw [hw0]; exact (Below.refl _ _).alloc (Nat.le_refl _) _
  have z0 : w0.heap.size = W.heap.size + 1 := by rw [hw0]; simp
  have g0 : w0.heap[W.heap.size]? = some (.cells #[.int .i64 kd, .int .i64 ra, .int .i64 rb, .int .u64 (rw' : Nat), .bool ch, .int .i64 n.lv, n.hi.v, .int .i64 n.ri, n.ks.v, n.vs.v, n.cs.v] 39 (0, 0)) := by rw [hw0]; exact heap_alloc_new W _
  obtain ⟨K', hK'⟩ : ∃ K' : Nat → Prop, K' = fun k => K k ∨ k = W.heap.size := ⟨_, rfl⟩
  have hA0 : AW K' w0 P AX AY s s := h.more b0 (fun k hk => by rw [hK'] at hk; rcases hk with hk | hk; exact .inl hk; exact .inr (by omega)) (by rw [hK']; exact .inl h.kp)
  have hi0 : n.In K' := hi.mono (fun k hk => by rw [hK']; exact .inl hk)
  have kb : K' W.heap.size := by rw [hK']; exact .inr rfl
  have kk : ∀ k, K k → K' k := fun k hk => by rw [hK']; exact .inl hk
  have HEND : Hid (∀ w' u, AW K' w' P AX AY u u → Upd (fun k => ¬ K' k) w0 w' → AwPost K W P AX AY u (.returned (.bool true)) w') := fun w' u h1 h2 => ⟨rfl, h1.less kk h.kp, (kept_below b0).trans (kept_less h2 kk)⟩
  have HCE : Hid (∀ w', Upd (fun k => ¬ K' k) w0 w' → w'.heap[W.heap.size]? = some (.cells #[.int .i64 kd, .int .i64 ra, .int .i64 rb, .int .u64 (rw' : Nat), .bool ch, .int .i64 n.lv, n.hi.v, .int .i64 n.ri, n.ks.v, n.vs.v, n.cs.v] 39 (0, 0))) := fun w' hu => kept_heap hu g0 kb
  have HOK : Hid (∀ w', Upd (fun k => ¬ K' k) w0 w' → n.Ok w') := fun w' hu => (hn.below b0).kept hi0 hu
  have HIN := hide hi0
  have HU0 : Hid (Upd (fun k => ¬ K' k) w0 w0) := Upd.refl _ _
  have HID := hide (wid_any hA0 ra a1 a2)
  have HIDB := hide (wid_any hA0 rb b1 b2)
  have HPK := hide (pick_any kd 9 w0 (by decide) (by decide) k1 k2)
  rw [hk, show (((6 : Nat)) : Int) = 6 from rfl, show (((9 : Nat)) : Int) = 9 from rfl] at HPK
  have HLEN := hide hA0.len
  obtain ⟨c0, c1⟩ := hA0.cells
  rw [← hid] at HID
  have HA0 := hide hA0
  have HW := hide hw0
  clear h hn hi hK' hA0 hi0 kb kk b0 hw0 z0 k1 k2 hk hid
  rw [show ((pickN rb (s.sl.length + 2) : Nat) : Int) = s.id rb from rfl] at HIDB
  have GX := hide (HA0.out.X (fun F hp => px_grow hp (s.id ra) (s.id rb)))
  have GY : Hid (∀ w' u, AW K' w' P AX AY u s → Calls Try.prog 38 #[.pointer (some ⟨AY, 0, none⟩), .int .i64 (s.id ra), .int .i64 (s.id rb)] w' fun e w'' => e = .returned (.tuple #[.bool (s.groB (s.id ra) (s.id rb)), .int .i64 (s.wordE (s.id rb))]) ∧ AW K' w'' P AX AY u (s.groS (s.id ra) (s.id rb)) ∧ Upd (fun k => ¬ K' k) w' w'') := fun w' u hw => hw.Y (fun F hp => rx_grow hp (s.id ra) (s.id rb))
  obtain ⟨lv, ⟨ha, hc, hs⟩, ri, ⟨ka, kc, KL⟩, ⟨va, vc, V⟩, ⟨ca, cc, C⟩⟩ := n
  simp only [Tx.v, TL.v, IL.v] at *
  generalize hs.length = lh at *
  generalize KL.length = lk at *
  generalize V.length = lw at *
  generalize C.length = lc at *
  generalize s.groB (s.id ra) (s.id rb) = gb at *
  generalize s.wordE (s.id rb) = ge at *
  generalize s.groS (s.id ra) (s.id rb) = gs at *
  generalize s.id rb = idb at *
  have y0 : w0.cell? ⟨W.heap.size, 0, none⟩ = some (.int .i64 kd) := row_cell g0 0 rfl
  have y1 : w0.cell? ⟨W.heap.size, 1, none⟩ = some (.int .i64 ra) := row_cell g0 1 rfl
  have y2 : w0.cell? ⟨W.heap.size, 2, none⟩ = some (.int .i64 rb) := row_cell g0 2 rfl
  have y3 : w0.cell? ⟨W.heap.size, 3, none⟩ = some (.int .u64 (rw' : Nat)) := row_cell g0 3 rfl
  have y4 : w0.cell? ⟨W.heap.size, 4, none⟩ = some (.bool ch) := row_cell g0 4 rfl
  have y5 : w0.cell? ⟨W.heap.size, 5, none⟩ = some (.int .i64 lv) := row_cell g0 5 rfl
  have y6 : w0.cell? ⟨W.heap.size, 6, none⟩ = some (.slice ha lh hc) := row_cell g0 6 rfl
  have y7 : w0.cell? ⟨W.heap.size, 7, none⟩ = some (.int .i64 ri) := row_cell g0 7 rfl
  have y8 : w0.cell? ⟨W.heap.size, 8, none⟩ = some (.slice ka lk kc) := row_cell g0 8 rfl
  have y9 : w0.cell? ⟨W.heap.size, 9, none⟩ = some (.slice va lw vc) := row_cell g0 9 rfl
  have y10 : w0.cell? ⟨W.heap.size, 10, none⟩ = some (.slice ca lc cc) := row_cell g0 10 rfl
  clear g0
  generalize s.id ra = id at *
  go_enter Try.func10, Try.ntmps10
  go_wp2_with fail
  rw [← HW.out]
  refine keep HID.out ?_
  go_wp2_with fail
  refine keep HPK.out ?_
  go_wp2_with fail
  refine keep HIDB.out ?_
  go_wp2_with fail
  refine GX.out.mono ?_
  rintro e w1 ⟨rfl, hA, hU⟩
  obtain ⟨d0, d1⟩ := hA.cells
  have AY1 := hide (GY.out w1 _ hA)
  have U1 := hide hU
  clear hA hU c0 c1
  go_wp2_with fail
  refine AY1.out.mono ?_
  rintro e w2 ⟨rfl, hA, hU⟩
  have HF := hide (HEND.out w2 _ hA (U1.out.trans hU))
  clear hA hU HEND
  go_wp2_with fail
  go_ret
  have := HF.out
  simpa using this
set_option maxRecDepth 100000 in
set_option maxHeartbeats 3200000 in
theorem raw8 (h : AW K W P AX AY s s) (o : AOp) (ho : o.Ok K W) (hk : pickN o.kind 9 = 8) : Calls Try.prog 10 #[.pointer (some ⟨P, 0, none⟩), o.v] W (AwPost K W P AX AY (s.lockS (s.id o.a) o.w)) := by
  obtain ⟨kd, ra, rb, rw', ch, n⟩ := o
  obtain ⟨⟨k1, k2⟩, ⟨a1, a2⟩, ⟨b1, b2⟩, w1, hn, hi⟩ := ho
  simp only at hk k1 k2 a1 a2 b1 b2 w1 hn hi
  simp only [AOp.v]
  have hid : s.id ra = ((pickN ra (s.sl.length + 2) : Nat) : Int) := rfl
  obtain ⟨w0, hw0⟩ : ∃ w0, w0 = W.alloc (.cells #[.int .i64 kd, .int .i64 ra, .int .i64 rb, .int .u64 (rw' : Nat), .bool ch, .int .i64 n.lv, n.hi.v, .int .i64 n.ri, n.ks.v, n.vs.v, n.cs.v] 39) := ⟨_, rfl⟩
  have b0 : Below W.heap.size W w0 := by rw [hw0]; exact (Below.refl _ _).alloc (Nat.le_refl _) _
  have z0 : w0.heap.size = W.heap.size + 1 := by rw [hw0]; simp
  have g0 : w0.heap[W.heap.size]? = some (.cells #[.int .i64 kd, .int .i64 ra, .int .i64 rb, .int .u64 (rw' : Nat), .bool ch, .int .i64 n.lv, n.hi.v, .int .i64 n.ri, n.ks.v, n.vs.v, n.cs.v] 39 (0, 0)) := by rw [hw0]; exact heap_alloc_new W _
  obtain ⟨K', hK'⟩ : ∃ K' : Nat → Prop, K' = fun k => K k ∨ k = W.heap.size := ⟨_, rfl⟩
  have hA0 : AW K' w0 P AX AY s s := h.more b0 (fun k hk => by rw [hK'] at hk; rcases hk with hk | hk; exact .inl hk; exact .inr (by omega)) (by rw [hK']; exact .inl h.kp)
  have hi0 : n.In K' := hi.mono (fun k hk => by rw [hK']; exact .inl hk)
  have kb : K' W.heap.size := by rw [hK']; exact .inr rfl
  have kk : ∀ k, K k → K' k := fun k hk => by rw [hK']; exact .inl hk
  have HEND : Hid (∀ w' u, AW K' w' P AX AY u u → Upd (fun k => ¬ K' k) w0 w' → AwPost K W P AX AY u (.returned (.bool true)) w') := fun w' u h1 h2 => ⟨rfl, h1.less kk h.kp, (kept_below b0).trans (kept_less h2 kk)⟩
  have HCE : Hid (∀ w', Upd (fun k => ¬ K' k) w0 w' → w'.heap[W.heap.size]? = some (.cells #[.int .i64 kd, .int .i64 ra, .int .i64 rb, .int .u64 (rw' : Nat), .bool ch, .int .i64 n.lv, n.hi.v, .int .i64 n.ri, n.ks.v, n.vs.v, n.cs.v] 39 (0, 0))) := fun w' hu => kept_heap hu g0 kb
  have HOK : Hid (∀ w', Upd (fun k => ¬ K' k) w0 w' → n.Ok w') := fun w' hu => (hn.below b0).kept hi0 hu
  have HIN := hide hi0
  have HU0 : Hid (Upd (fun k => ¬ K' k) w0 w0) := Upd.refl _ _
  have HID := hide (wid_any hA0 ra a1 a2)
  have HIDB := hide (wid_any hA0 rb b1 b2)
  have HPK := hide (pick_any kd 9 w0 (by decide) (by decide) k1 k2)
  rw [hk, show (((8 : Nat)) : Int) = 8 from rfl, show (((9 : Nat)) : Int) = 9 from rfl] at HPK
  have HLEN := hide hA0.len
  obtain ⟨c0, c1⟩ := hA0.cells
  rw [← hid] at HID
  have HA0 := hide hA0
  have HW := hide hw0
  clear h hn hi hK' hA0 hi0 kb kk b0 hw0 z0 k1 k2 hk hid
  have LCK := hide (wlock_any HA0.out (s.id ra) rw' w1)
  obtain ⟨lv, ⟨ha, hc, hs⟩, ri, ⟨ka, kc, KL⟩, ⟨va, vc, V⟩, ⟨ca, cc, C⟩⟩ := n
  simp only [Tx.v, TL.v, IL.v] at *
  generalize hs.length = lh at *
  generalize KL.length = lk at *
  generalize V.length = lw at *
  generalize C.length = lc at *
  have y0 : w0.cell? ⟨W.heap.size, 0, none⟩ = some (.int .i64 kd) := row_cell g0 0 rfl
  have y1 : w0.cell? ⟨W.heap.size, 1, none⟩ = some (.int .i64 ra) := row_cell g0 1 rfl
  have y2 : w0.cell? ⟨W.heap.size, 2, none⟩ = some (.int .i64 rb) := row_cell g0 2 rfl
  have y3 : w0.cell? ⟨W.heap.size, 3, none⟩ = some (.int .u64 (rw' : Nat)) := row_cell g0 3 rfl
  have y4 : w0.cell? ⟨W.heap.size, 4, none⟩ = some (.bool ch) := row_cell g0 4 rfl
  have y5 : w0.cell? ⟨W.heap.size, 5, none⟩ = some (.int .i64 lv) := row_cell g0 5 rfl
  have y6 : w0.cell? ⟨W.heap.size, 6, none⟩ = some (.slice ha lh hc) := row_cell g0 6 rfl
  have y7 : w0.cell? ⟨W.heap.size, 7, none⟩ = some (.int .i64 ri) := row_cell g0 7 rfl
  have y8 : w0.cell? ⟨W.heap.size, 8, none⟩ = some (.slice ka lk kc) := row_cell g0 8 rfl
  have y9 : w0.cell? ⟨W.heap.size, 9, none⟩ = some (.slice va lw vc) := row_cell g0 9 rfl
  have y10 : w0.cell? ⟨W.heap.size, 10, none⟩ = some (.slice ca lc cc) := row_cell g0 10 rfl
  clear g0
  generalize s.id ra = id at *
  go_enter Try.func10, Try.ntmps10
  go_wp2_with fail
  rw [← HW.out]
  refine keep HID.out ?_
  go_wp2_with fail
  refine keep HPK.out ?_
  go_wp2_with fail
  refine LCK.out.mono ?_
  rintro e w2 ⟨rfl, hA, hU⟩
  have HF := hide (HEND.out w2 _ hA hU)
  clear hA hU HEND
  go_wp2_with fail
  go_ret
  exact HF.out
end

end Go.Proofs.Ytfpogjgbmibmcaa
