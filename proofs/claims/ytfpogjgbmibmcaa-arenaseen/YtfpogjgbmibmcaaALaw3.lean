/- The statements' Raw: one call of both. -/
import Derived.Test.YtfpogjgbmibmcaaALaw2
namespace Go.Proofs.Ytfpogjgbmibmcaa
open Go.RowKit

/-- A call, as it is told. -/
structure AOp where
  kind : Int
  a : Int
  b : Int
  w : Nat
  ch : Bool
  n : Nd
def AOp.v (o : AOp) : Value := .agg #[.int .i64 o.kind, .int .i64 o.a, .int .i64 o.b, .int .u64 (o.w : Nat), .bool o.ch, .int .i64 o.n.lv, o.n.hi.v, .int .i64 o.n.ri, o.n.ks.v, o.n.vs.v, o.n.cs.v]
structure AOp.Ok (K : Nat → Prop) (W : World) (o : AOp) : Prop where
  k1 : -9223372036854775808 ≤ o.kind ∧ o.kind ≤ 9223372036854775807
  a1 : -9223372036854775808 ≤ o.a ∧ o.a ≤ 9223372036854775807
  b1 : -9223372036854775808 ≤ o.b ∧ o.b ≤ 9223372036854775807
  w1 : o.w < 18446744073709551616
  n : o.n.Ok W
  i : o.n.In K
theorem AOp.Ok.kept {K : Nat → Prop} {W W' : World} {o : AOp} (h : o.Ok K W) (hu : Upd (fun k => ¬ K k) W W') : o.Ok K W' := ⟨h.k1, h.a1, h.b1, h.w1, h.n.kept h.i hu, h.i⟩
/-- A sum of words. -/
def wadd (a b : Nat) : Nat := (a + b) % 18446744073709551616
theorem wadd_lt (a b : Nat) : wadd a b < 18446744073709551616 := Nat.mod_lt _ (by decide)
theorem wadd_eq (a b : Nat) : IntKind.u64.wrap ((a : Int) + (b : Int)) = ((wadd a b : Nat) : Int) := by
  rw [IntKind.wrap_u64]
  unfold wadd
  omega
/-- The number that is meant; what stands behind a call. -/
def AS.id (s : AS) (c : Int) : Int := ((pickN c (s.sl.length + 2) : Nat) : Int)
def AS.raw (s : AS) (o : AOp) : AS :=
  if pickN o.kind 9 = 0 then s.allS else if pickN o.kind 9 = 1 then s else if pickN o.kind 9 = 2 then s.lockS (s.id o.a) (wadd (s.wordW (s.id o.a)) (pickN o.b 3)) else
  if pickN o.kind 9 = 3 then s.unlS (s.id o.a) o.ch else if pickN o.kind 9 = 4 then s.hedS (s.id o.a) o.n.lv o.n.hi.s o.n.ri else if pickN o.kind 9 = 5 then s.bodS (s.id o.a) o.n.ks.p o.n.vs.p o.n.cs.s else
  if pickN o.kind 9 = 6 then s.groS (s.id o.a) (s.id o.b) else if pickN o.kind 9 = 7 then s.layS (1 + ((pickN o.a (s.sl.length + 1) : Nat) : Int)) o.n.p else s.lockS (s.id o.a) o.w
theorem row_cell {W : World} {b : Nat} {T : TypeId} {cs : Array Value} {v : Value} (h : W.heap[b]? = some (.cells cs T (0, 0))) (j : Nat) (hj : cs[j]? = some v) : W.cell? ⟨b, j, none⟩ = some v := by rw [cell_of_row _ _ _ _ _ _ h]; exact hj
section
variable {K : Nat → Prop} {W : World} {P AX AY : Nat} {s : AS}
set_option maxRecDepth 100000 in
set_option maxHeartbeats 3200000 in
theorem raw0 (h : AW K W P AX AY s s) (o : AOp) (ho : o.Ok K W) (hk : pickN o.kind 9 = 0) : Calls Try.prog 10 #[.pointer (some ⟨P, 0, none⟩), o.v] W (AwPost K W P AX AY s.allS) := by
  obtain ⟨kd, ra, rb, rw', ch, n⟩ := o
  obtain ⟨⟨k1, k2⟩, ⟨a1, a2⟩, ⟨b1, b2⟩, w1, hn, hi⟩ := ho
  simp only at hk k1 k2 a1 a2 b1 b2 w1 hn hi
  simp only [AOp.v]
  have hid : s.id ra = ((pickN ra (s.sl.length + 2) : Nat) : Int) := rfl
  obtain ⟨w0, hw0⟩ : ∃ w0, w0 = W.alloc (.cells #[.int .i64 kd, .int .i64 ra, .int .i64 rb, .int .u64 (rw' : Nat), .bool ch, .int .i64 n.lv, n.hi.v, .int .i64 n.ri, n.ks.v, n.vs.v, n.cs.v] 39) := ⟨_, rfl⟩
  have b0 : Below W.heap.size W w0 := by rw [hw0]; exact (Below.refl _ _).alloc (Nat.le_refl _) _
  have z0 : w0.heap.size = W.heap.size + 1 := by rw [hw0]; simp
  have g0 : w0.heap[W.heap.size]? = some (.cells #[.int .i64 kd, .int .i64 ra, .int .i64 rb, .int .u64 (rw' : Nat), .bool ch, .int .i64 n.lv, n.hi.v, .int .i64 n.ri, n.ks.v, n.vs.v, n.cs.v] 39 (0, 0)) := by rw [hw0]; exact heap_alloc_new W _
  obtain ⟨K', hK'⟩ : ∃ K' : Nat → Prop, K' = fun k => K k ∨ k = W.heap.size := ⟨_, rfl⟩
  have hA0 : AW K' w0 P AX AY s s := h.more b0 (fun k hk => by rw [hK'] at hk; rcases hk with hk | hk; exact .inl hk; exact .inr (by omega)) (by rw [hK']; exact .inl h.kp)
  have hi0 : n.In K' := hi.mono (fun k hk => by rw [hK']; exact .inl hk)
  have kb : K' W.heap.size := by rw [hK']; exact .inr rfl
  have kk : ∀ k, K k → K' k := fun k hk => by rw [hK']; exact .inl hk
  have HEND : Hid (∀ w' u, AW K' w' P AX AY u u → Upd (fun k => ¬ K' k) w0 w' → AwPost K W P AX AY u (.returned (.bool true)) w') := fun w' u h1 h2 => ⟨rfl, h1.less kk h.kp, (kept_below b0).trans (kept_less h2 kk)⟩
  have HCE : Hid (∀ w', Upd (fun k => ¬ K' k) w0 w' → w'.heap[W.heap.size]? = some (.cells #[.int .i64 kd, .int .i64 ra, .int .i64 rb, .int .u64 (rw' : Nat), .bool ch, .int .i64 n.lv, n.hi.v, .int .i64 n.ri, n.ks.v, n.vs.v, n.cs.v] 39 (0, 0))) := fun w' hu => kept_heap hu g0 kb
  have HOK : Hid (∀ w', Upd (fun k => ¬ K' k) w0 w' → n.Ok w') := fun w' hu => (hn.below b0).kept hi0 hu
  have HIN := hide hi0
  have HU0 : Hid (Upd (fun k => ¬ K' k) w0 w0) := Upd.refl _ _
  have HID := hide (wid_any hA0 ra a1 a2)
  have HIDB := hide (wid_any hA0 rb b1 b2)
  have HPK := hide (pick_any kd 9 w0 (by decide) (by decide) k1 k2)
  rw [hk, show (((0 : Nat)) : Int) = 0 from rfl, show (((9 : Nat)) : Int) = 9 from rfl] at HPK
  have HLEN := hide hA0.len
  obtain ⟨c0, c1⟩ := hA0.cells
  rw [← hid] at HID
  have HA0 := hide hA0
  have HW := hide hw0
  clear h hn hi hK' hA0 hi0 kb kk b0 hw0 z0 k1 k2 hk hid
  have ALX := hide (HA0.out.X (fun F hp => px_alloc hp))
  have ALY : Hid (∀ w' u, AW K' w' P AX AY u s → Calls Try.prog 31 #[.pointer (some ⟨AY, 0, none⟩)] w' fun e w'' => e = .returned (.tuple #[.int .i64 s.allI, .int .i64 s.allE]) ∧ AW K' w'' P AX AY u s.allS ∧ Upd (fun k => ¬ K' k) w' w'') := fun w' u hw => hw.Y (fun F hp => rx_alloc hp)
  obtain ⟨lv, ⟨ha, hc, hs⟩, ri, ⟨ka, kc, KL⟩, ⟨va, vc, V⟩, ⟨ca, cc, C⟩⟩ := n
  simp only [Tx.v, TL.v, IL.v] at *
  generalize hs.length = lh at *
  generalize KL.length = lk at *
  generalize V.length = lw at *
  generalize C.length = lc at *
  generalize s.allI = ai at *
  generalize s.allE = ae at *
  have y0 : w0.cell? ⟨W.heap.size, 0, none⟩ = some (.int .i64 kd) := row_cell g0 0 rfl
  have y1 : w0.cell? ⟨W.heap.size, 1, none⟩ = some (.int .i64 ra) := row_cell g0 1 rfl
  have y2 : w0.cell? ⟨W.heap.size, 2, none⟩ = some (.int .i64 rb) := row_cell g0 2 rfl
  have y3 : w0.cell? ⟨W.heap.size, 3, none⟩ = some (.int .u64 (rw' : Nat)) := row_cell g0 3 rfl
  have y4 : w0.cell? ⟨W.heap.size, 4, none⟩ = some (.bool ch) := row_cell g0 4 rfl
  have y5 : w0.cell? ⟨W.heap.size, 5, none⟩ = some (.int .i64 lv) := row_cell g0 5 rfl
  have y6 : w0.cell? ⟨W.heap.size, 6, none⟩ = some (.slice ha lh hc) := row_cell g0 6 rfl
  have y7 : w0.cell? ⟨W.heap.size, 7, none⟩ = some (.int .i64 ri) := row_cell g0 7 rfl
  have y8 : w0.cell? ⟨W.heap.size, 8, none⟩ = some (.slice ka lk kc) := row_cell g0 8 rfl
  have y9 : w0.cell? ⟨W.heap.size, 9, none⟩ = some (.slice va lw vc) := row_cell g0 9 rfl
  have y10 : w0.cell? ⟨W.heap.size, 10, none⟩ = some (.slice ca lc cc) := row_cell g0 10 rfl
  clear g0
  generalize s.id ra = id at *
  go_enter Try.func10, Try.ntmps10
  go_wp2_with fail
  rw [← HW.out]
  refine keep HID.out ?_
  go_wp2_with fail
  refine keep HPK.out ?_
  go_wp2_with fail
  refine ALX.out.mono ?_
  rintro e w1 ⟨rfl, hA, hU⟩
  obtain ⟨d0, d1⟩ := hA.cells
  have AY1 := hide (ALY.out w1 _ hA)
  have U1 := hide hU
  clear hA hU c0 c1
  go_wp2_with fail
  refine AY1.out.mono ?_
  rintro e w2 ⟨rfl, hA, hU⟩
  have HF := hide (HEND.out w2 _ hA (U1.out.trans hU))
  clear hA hU HEND
  go_wp2_with fail
  go_ret
  have := HF.out
  simpa using this
set_option maxRecDepth 100000 in
set_option maxHeartbeats 3200000 in
theorem raw1 (h : AW K W P AX AY s s) (o : AOp) (ho : o.Ok K W) (hk : pickN o.kind 9 = 1) : Calls Try.prog 10 #[.pointer (some ⟨P, 0, none⟩), o.v] W (AwPost K W P AX AY s) := by
  obtain ⟨kd, ra, rb, rw', ch, n⟩ := o
  obtain ⟨⟨k1, k2⟩, ⟨a1, a2⟩, ⟨b1, b2⟩, w1, hn, hi⟩ := ho
  simp only at hk k1 k2 a1 a2 b1 b2 w1 hn hi
  simp only [AOp.v]
  have hid : s.id ra = ((pickN ra (s.sl.length + 2) : Nat) : Int) := rfl
  obtain ⟨w0, hw0⟩ : ∃ w0, w0 = W.alloc (.cells #[.int .i64 kd, .int .i64 ra, .int .i64 rb, .int .u64 (rw' : Nat), .bool ch, .int .i64 n.lv, n.hi.v, .int .i64 n.ri, n.ks.v, n.vs.v, n.cs.v] 39) := ⟨_, rfl⟩
  have b0 : Below W.heap.size W w0 := by rw [hw0]; exact (Below.refl _ _).alloc (Nat.le_refl _) _
  have z0 : w0.heap.size = W.heap.size + 1 := by rw [hw0]; simp
  have g0 : w0.heap[W.heap.size]? = some (.cells #[.int .i64 kd, .int .i64 ra, .int .i64 rb, .int .u64 (rw' : Nat), .bool ch, .int .i64 n.lv, n.hi.v, .int .i64 n.ri, n.ks.v, n.vs.v, n.cs.v] 39 (0, 0)) := by rw [hw0]; exact heap_alloc_new W _
  obtain ⟨K', hK'⟩ : ∃ K' : Nat → Prop, K' = fun k => K k ∨ k = W.heap.size := ⟨_, rfl⟩
  have hA0 : AW K' w0 P AX AY s s := h.more b0 (fun k hk => by rw [hK'] at hk; rcases hk with hk | hk; exact .inl hk; exact .inr (by omega)) (by rw [hK']; exact .inl h.kp)
  have hi0 : n.In K' := hi.mono (fun k hk => by rw [hK']; exact .inl hk)
  have kb : K' W.heap.size := by rw [hK']; exact .inr rfl
  have kk : ∀ k, K k → K' k := fun k hk => by rw [hK']; exact .inl hk
  have HEND : Hid (∀ w' u, AW K' w' P AX AY u u → Upd (fun k => ¬ K' k) w0 w' → AwPost K W P AX AY u (.returned (.bool true)) w') := fun w' u h1 h2 => ⟨rfl, h1.less kk h.kp, (kept_below b0).trans (kept_less h2 kk)⟩
  have HCE : Hid (∀ w', Upd (fun k => ¬ K' k) w0 w' → w'.heap[W.heap.size]? = some (.cells #[.int .i64 kd, .int .i64 ra, .int .i64 rb, .int .u64 (rw' : Nat), .bool ch, .int .i64 n.lv, n.hi.v, .int .i64 n.ri, n.ks.v, n.vs.v, n.cs.v] 39 (0, 0))) := fun w' hu => kept_heap hu g0 kb
  have HOK : Hid (∀ w', Upd (fun k => ¬ K' k) w0 w' → n.Ok w') := fun w' hu => (hn.below b0).kept hi0 hu
  have HIN := hide hi0
  have HU0 : Hid (Upd (fun k => ¬ K' k) w0 w0) := Upd.refl _ _
  have HID := hide (wid_any hA0 ra a1 a2)
  have HIDB := hide (wid_any hA0 rb b1 b2)
  have HPK := hide (pick_any kd 9 w0 (by decide) (by decide) k1 k2)
  rw [hk, show (((1 : Nat)) : Int) = 1 from rfl, show (((9 : Nat)) : Int) = 9 from rfl] at HPK
  have HLEN := hide hA0.len
  obtain ⟨c0, c1⟩ := hA0.cells
  rw [← hid] at HID
  have HA0 := hide hA0
  have HW := hide hw0
  clear h hn hi hK' hA0 hi0 kb kk b0 hw0 z0 k1 k2 hk hid
  have WX : Hid (∀ w', AW K' w' P AX AY s s → Calls Try.prog 17 #[.pointer (some ⟨AX, 0, none⟩), .int .i64 ra] w' fun e w'' => e = .returned (.tuple #[.int .u64 (s.wordW ra : Nat), .int .i64 (s.wordE ra)]) ∧ AW K' w'' P AX AY s s ∧ Upd (fun k => ¬ K' k) w' w'') := fun w' hw => (aw_wordX hw ra).mono fun e w'' ⟨h1, h2⟩ => ⟨h1, by rw [h2]; exact hw, by rw [h2]; exact Upd.refl _ _⟩
  have WY : Hid (∀ w', AW K' w' P AX AY s s → Calls Try.prog 32 #[.pointer (some ⟨AY, 0, none⟩), .int .i64 ra] w' fun e w'' => e = .returned (.tuple #[.int .u64 (s.wordW ra : Nat), .int .i64 (s.wordE ra)]) ∧ AW K' w'' P AX AY s s ∧ Upd (fun k => ¬ K' k) w' w'') := fun w' hw => (aw_wordY hw ra).mono fun e w'' ⟨h1, h2⟩ => ⟨h1, by rw [h2]; exact hw, by rw [h2]; exact Upd.refl _ _⟩
  obtain ⟨lv, ⟨ha, hc, hs⟩, ri, ⟨ka, kc, KL⟩, ⟨va, vc, V⟩, ⟨ca, cc, C⟩⟩ := n
  simp only [Tx.v, TL.v, IL.v] at *
  generalize hs.length = lh at *
  generalize KL.length = lk at *
  generalize V.length = lw at *
  generalize C.length = lc at *
  generalize s.wordW ra = ww at *
  generalize s.wordE ra = we at *
  have y0 : w0.cell? ⟨W.heap.size, 0, none⟩ = some (.int .i64 kd) := row_cell g0 0 rfl
  have y1 : w0.cell? ⟨W.heap.size, 1, none⟩ = some (.int .i64 ra) := row_cell g0 1 rfl
  have y2 : w0.cell? ⟨W.heap.size, 2, none⟩ = some (.int .i64 rb) := row_cell g0 2 rfl
  have y3 : w0.cell? ⟨W.heap.size, 3, none⟩ = some (.int .u64 (rw' : Nat)) := row_cell g0 3 rfl
  have y4 : w0.cell? ⟨W.heap.size, 4, none⟩ = some (.bool ch) := row_cell g0 4 rfl
  have y5 : w0.cell? ⟨W.heap.size, 5, none⟩ = some (.int .i64 lv) := row_cell g0 5 rfl
  have y6 : w0.cell? ⟨W.heap.size, 6, none⟩ = some (.slice ha lh hc) := row_cell g0 6 rfl
  have y7 : w0.cell? ⟨W.heap.size, 7, none⟩ = some (.int .i64 ri) := row_cell g0 7 rfl
  have y8 : w0.cell? ⟨W.heap.size, 8, none⟩ = some (.slice ka lk kc) := row_cell g0 8 rfl
  have y9 : w0.cell? ⟨W.heap.size, 9, none⟩ = some (.slice va lw vc) := row_cell g0 9 rfl
  have y10 : w0.cell? ⟨W.heap.size, 10, none⟩ = some (.slice ca lc cc) := row_cell g0 10 rfl
  clear g0
  generalize s.id ra = id at *
  go_enter Try.func10, Try.ntmps10
  go_wp2_with fail
  rw [← HW.out]
  refine keep HID.out ?_
  go_wp2_with fail
  refine keep HPK.out ?_
  go_wp2_with fail
  go_region_held3 (fun W' => W'.cell? ⟨P, 0, none⟩ = some (.pointer (some ⟨AX, 0, none⟩)) ∧ W'.cell? ⟨W.heap.size, 1, none⟩ = some (.int .i64 ra)) (go_keep) (first
    | (go_at_call 17; refine (WX.out w0.drew (HA0.out.below (below_drew (Below.refl _ _)))).mono ?_; rintro e w1 ⟨rfl, hA, hU⟩; have A1 := hide hA; have U1 : Hid (Upd (fun k => ¬ K' k) w0 w1) := ((Upd.refl _ w0).drew).trans hU; obtain ⟨d0, d1⟩ := hA.cells; have z1 := row_cell (HCE.out w1 U1.out) 1 rfl; clear hA hU)
    | fail)
  clear c0 c1 y0 y1 y2 y3 y4 y5 y6 y7 y8 y9 y10
  go_wp2_with fail
  go_region_held3 (fun W' => W'.cell? ⟨P, 1, none⟩ = some (.pointer (some ⟨AY, 0, none⟩)) ∧ W'.cell? ⟨W.heap.size, 1, none⟩ = some (.int .i64 ra)) (go_keep) (first
    | (go_at_call 32; refine (WY.out w1.drew (A1.out.below (below_drew (Below.refl _ _)))).mono ?_; rintro e w2 ⟨rfl, hA, hU⟩; have A2 := hide hA; have U2 := hide (U1.out.trans (((Upd.refl _ w1).drew).trans hU)); obtain ⟨f0, f1⟩ := hA.cells; have v1 := row_cell (HCE.out w2 U2.out) 1 rfl; clear hA hU)
    | fail)
  have HF := hide (HEND.out w2 _ A2.out U2.out)
  clear HEND d0 d1 z1 f0 f1 v1
  go_wp2_with fail
  go_ret
  have := HF.out
  simpa using this
end

end Go.Proofs.Ytfpogjgbmibmcaa
