/- The statements' Same. -/
import Derived.Test.YtpljbgcofmlhbaaGreatG29
namespace Go.Proofs.YtpljbgcofmlhbaaGreat
open Go.RowKit
set_option maxRecDepth 100000
def struck (hs : List Int) (i : Nat) : List Int := List.replicate i (-1) ++ hs.drop i
theorem struck_len {hs : List Int} {i : Nat} (h : i ≤ hs.length) : (struck hs i).length = hs.length := by simp [struck]; omega
theorem struck_at {hs : List Int} {i : Nat} (h : i < hs.length) : (struck hs i)[i]? = some hs[i] := by
 unfold struck
 rw [List.getElem?_append_right (by simp)]
 simp [h]
theorem struck_next {hs : List Int} {i : Nat} (h : i < hs.length) : (struck hs i).set i (-1) = struck hs (i + 1) := by
 unfold struck
 rw [List.set_append_right _ _ (by simp), List.drop_eq_getElem_cons h]
 simp only [List.length_replicate, Nat.sub_self, List.set_cons_zero]
 rw [List.replicate_succ', List.append_assoc]
 rfl
theorem held_le (s : AS) : s.held.length ≤ s.sl.length := by
 unfold AS.held heldL
 have := heldN_len (s.sl.map (·.1)) (s.sl.map (·.1)).length
 simpa using this
section
variable {K : Nat → Prop} {W : World} {P AX AY : Nat} {s : AS}
set_option maxRecDepth 100000 in
set_option maxHeartbeats 6400000 in
theorem wsameB_any (h : AW K W P AX AY s s) : Calls Tryz.prog 17 #[.pointer (some ⟨P, 0, none⟩)] W (BelP W) := by
 have UY := hide (aw_usedY h)
 have HHX : Hid (Calls Tryz.prog 27 #[.pointer (some ⟨AX, 0, none⟩)] W (HeldPost W s.held)) := by obtain ⟨F, hp⟩ := h.px; exact px_held hp
 have HHY : Hid (∀ W', AW K W' P AX AY s s → Calls Tryz.prog 70 #[.pointer (some ⟨AY, 0, none⟩)] W' (HeldPost W' s.held)) := fun W' hw => by obtain ⟨F, hp⟩ := hw.rx; exact rx_held hp
 have CUX : Hid (∀ W', AW K W' P AX AY s s → ∀ q, Calls Tryz.prog 42 #[.pointer (some ⟨AX, 0, none⟩)] (W'.drewN q) fun e w' => e = .returned (.int .i64 (s.sl.length : Nat)) ∧ ∃ m, w' = W'.drewN m) := fun W' hw q => by
  obtain ⟨F, hp⟩ := (hw.below (below_drewN (Below.refl W'.heap.size W') q)).px
  exact (px_used hp).mono fun e w' ⟨h1, h2⟩ => ⟨h1, q, h2⟩
 have CLX : Hid (∀ W', AW K W' P AX AY s s → ∀ q, Calls Tryz.prog 37 #[.pointer (some ⟨AX, 0, none⟩)] (W'.drewN q) fun e w' => e = .returned (.int .i64 (s.nodes - (s.sl.length : Nat))) ∧ ∃ m, w' = W'.drewN m) := fun W' hw q => by
  obtain ⟨F, hp⟩ := (hw.below (below_drewN (Below.refl W'.heap.size W') q)).px
  exact Calls.quiet_of (px_left hp)
 have CLY : Hid (∀ W', AW K W' P AX AY s s → ∀ q, Calls Tryz.prog 58 #[.pointer (some ⟨AY, 0, none⟩)] (W'.drewN q) fun e w' => e = .returned (.int .i64 (s.nodes - (s.sl.length : Nat))) ∧ ∃ m, w' = W'.drewN m) := fun W' hw q => by
  obtain ⟨F, hp⟩ := (hw.below (below_drewN (Below.refl W'.heap.size W') q)).rx
  exact Calls.quiet_of (rx_left hp)
 have CRX : Hid (∀ W', AW K W' P AX AY s s → ∀ q, Calls Tryz.prog 71 #[.pointer (some ⟨AX, 0, none⟩)] (W'.drewN q) fun e w' => e = .returned (.int .i64 s.root) ∧ ∃ m, w' = W'.drewN m) := fun W' hw q => by
  obtain ⟨F, hp⟩ := (hw.below (below_drewN (Below.refl W'.heap.size W') q)).px
  exact (px_root hp).mono fun e w' ⟨h1, h2⟩ => ⟨h1, q, h2⟩
 have CRY : Hid (∀ W', AW K W' P AX AY s s → ∀ q, Calls Tryz.prog 59 #[.pointer (some ⟨AY, 0, none⟩)] (W'.drewN q) fun e w' => e = .returned (.int .i64 s.root) ∧ ∃ m, w' = W'.drewN m) := fun W' hw q => by
  obtain ⟨F, hp⟩ := (hw.below (below_drewN (Below.refl W'.heap.size W') q)).rx
  exact (rx_root hp).mono fun e w' ⟨h1, h2⟩ => ⟨h1, q, h2⟩
 have HND : Hid (∀ W' (id : Int), AW K W' P AX AY s s → Calls Tryz.prog 72 #[.pointer (some ⟨P, 0, none⟩), .int .i64 id] W' (BelP W')) := fun W' id hw => wnodeB_any hw id
 have HA := hide h
 have hlen := h.len.1
 have hhl := held_le s
 obtain ⟨c0, c1⟩ := h.cells
 clear h
 generalize s.held = hs at *
 generalize hn : s.sl.length = n at *
 obtain ⟨lf, hlf⟩ : ∃ lf, s.nodes - (n : Int) = lf := ⟨_, rfl⟩
 rw [hlf] at CLX CLY
 obtain ⟨l, hl⟩ : ∃ l, hs.length = l := ⟨_, rfl⟩
 have HL := hide hl
 have hl6 : l ≤ 65536 := by omega
 clear hn hlf hl hhl
 generalize s.root = sr at *
 go_enter Tryz.func17, Tryz.ntmps17
 go_wp2_with fail
 refine keep UY.out ?_
 go_wp2_with fail
 refine HHX.out.mono ?_
 rintro e w1 ⟨v1, rfl, ho1, hb1⟩
 obtain ⟨a1, k1, rfl, _, ha1⟩ := vok_of_owns ho1
 rw [HL.out] at ho1 ⊢
 have A1 := hide (HA.out.below hb1)
 have HO1 := hide ho1
 have B1 := hide hb1
 obtain ⟨d0, d1⟩ := A1.out.cells
 have HHY1 := hide (HHY.out w1 A1.out)
 clear ho1 hb1 ha1 c0 c1 HHY HHX UY
 go_wp2_with fail
 refine HHY1.out.mono ?_
 rintro e w2 ⟨v2, rfl, ho2, hb2⟩
 obtain ⟨a2, k2, rfl, _, ha2⟩ := vok_of_owns ho2
 rw [HL.out] at ho2 ⊢
 have A2 := hide (A1.out.below hb2)
 have HR2 : Hid (Row w2 .i64 a2 hs) := row_of_owns2 ho2
 have HLT2 : Hid (∀ x, a2 = some x → w1.heap.size ≤ x.block) := fun x hx => (owns_in ho2 x hx).1
 have B2 := hide (B1.out.trans (hb2.mono B1.out.size))
 have HO2 : Hid (w2.ownsRow W.heap.size 3 1 (.slice a1 l k1) l ((struck hs 0).map (Value.int .i64))) := by
  show World.ownsRow _ _ _ _ _ _ _
  rw [show struck hs 0 = hs by simp [struck]]
  exact owns_below HO1.out hb2
 have HLT1 : Hid (∀ x, a1 = some x → x.block < w1.heap.size) := fun x hx => (owns_in HO1.out x hx).2
 obtain ⟨e0, e1⟩ := A2.out.cells
 have DUX := hide (CUX.out w2 A2.out)
 have DLX := hide (CLX.out w2 A2.out)
 have DLY := hide (CLY.out w2 A2.out)
 have DRX := hide (CRX.out w2 A2.out)
 have DRY := hide (CRY.out w2 A2.out)
 clear ho2 hb2 ha2 d0 d1 HHY1 CUX CLX CLY CRX CRY
 go_wp2_with fail
 go_quiet (first
  | (go_at_call 42; with_reducible exact DUX.out _)
  | (go_at_call 37; with_reducible exact DLX.out _)
  | (go_at_call 58; with_reducible exact DLY.out _)
  | (go_at_call 71; with_reducible exact DRX.out _)
  | (go_at_call 59; with_reducible exact DRY.out _))
 clear DUX DLX DLY DRX DRY e0 e1
 obtain ⟨w3, hw3⟩ : ∃ w3, w3 = w2.drewN nq := ⟨_, rfl⟩
 have HS0 : Hid (w3.ownsRow W.heap.size 3 1 (.slice a1 l k1) l ((struck hs 0).map (Value.int .i64)) ∧ Row w3 .i64 a2 hs ∧ Upd (fun k => W.heap.size ≤ k) W w3) := by
  rw [hw3]
  exact ⟨HO2.out, HR2.out, (Upd.of_below B2.out _).trans (upd_drewN _ _ _)⟩
 rw [← hw3]
 clear hw3 HO2 HR2 A2
 go_wp2_with fail
 go_loopw [6] (fun q6 wr => ∃ i : Nat, i ≤ l ∧ q6 = .int .i64 (i : Int) ∧ Hid (wr.ownsRow W.heap.size 3 1 (.slice a1 l k1) l ((struck hs i).map (Value.int .i64)) ∧ Row wr .i64 a2 hs ∧ Upd (fun k => W.heap.size ≤ k) W wr)) (fun q6 _ => l - (intOf q6).toNat)
 case atStart => exact ⟨0, Nat.zero_le _, rfl, HS0⟩
 case round =>
  clear HS0
  obtain ⟨i, hi, rfl, HI⟩ := hrel
  rename World => wr
  by_cases hlt : i < l
  ·have j1 : (i : Int) < (l : Int) := by omega
   have hih : i < hs.length := by rw [HL.out]; exact hlt
   obtain ⟨g1, rfl⟩ : ∃ g1, a1 = some ⟨g1, 0, none⟩ := by
    rcases HI.out.1.2 with ⟨hv, h0⟩ | ⟨g, c, cur, hv, _⟩
    ·omega
    ·cases hv; exact ⟨g, rfl⟩
   have q1 := HI.out.1.cells (g := g1) rfl i (.int .i64 hs[i]) (by rw [List.getElem?_map, struck_at hih]; rfl)
   rw [Addr.add_lit, Nat.zero_add] at q1
   obtain ⟨b2, o2, rfl, q2⟩ := HI.out.2.1 i hih
   rw [List.getD_eq_getElem?_getD, List.getElem?_eq_getElem hih, Option.getD_some] at q2
   generalize hs[i] = hv at *
   have fz := own_frozen HI.out.1 i
   go_wp2_with fail
   go_quiet (fail)
   obtain ⟨ws, hws⟩ : ∃ ws, ws = wr.drewN nq := ⟨_, rfl⟩
   have q1' : ws.cell? ⟨g1, i, none⟩ = some (.int .i64 hv) := by rw [hws]; exact q1
   have fz' : ws.frozen? ⟨g1, i, none⟩ = false := by rw [hws]; exact fz
   have HI2 : Hid (ws.ownsRow W.heap.size 3 1 (.slice (some ⟨g1, 0, none⟩) l k1) l ((struck hs i).map (Value.int .i64)) ∧ Row ws .i64 (some ⟨b2, o2, none⟩) hs ∧ Upd (fun k => W.heap.size ≤ k) W ws) := by
    rw [hws]
    exact ⟨HI.out.1, HI.out.2.1, HI.out.2.2.trans (upd_drewN _ _ _)⟩
   rw [← hws]
   clear hws q1 fz q2
   go_wp2_with fail
   have HI3 : Hid ((ws.setCell ⟨g1, i, none⟩ (.int .i64 (-1))).ownsRow W.heap.size 3 1 (.slice (some ⟨g1, 0, none⟩) l k1) l ((struck hs (i + 1)).map (Value.int .i64)) ∧ Row (ws.setCell ⟨g1, i, none⟩ (.int .i64 (-1))) .i64 (some ⟨b2, o2, none⟩) hs ∧ Upd (fun k => W.heap.size ≤ k) W (ws.setCell ⟨g1, i, none⟩ (.int .i64 (-1)))) := by
    refine ⟨?_, ?_, ?_⟩
    ·have := own_setV HI2.out.1 i (.int .i64 (-1))
     rw [show (Value.int .i64 (-1)) = (Value.int .i64) (-1) from rfl, ← List.map_set, struck_next hih] at this
     exact this
    ·refine HI2.out.2.1.upd (S := fun k => k = g1) ((Upd.refl _ _).setCell _ _ (fun _ => rfl)) (fun x hx _ e => ?_)
     have h1 := HLT1.out ⟨g1, 0, none⟩ rfl
     have h2 := HLT2.out x hx
     simp only at h1
     omega
    ·exact HI2.out.2.2.trans ((Upd.refl _ _).setCell _ _ (fun _ => (HI2.out.1.lt g1 rfl).1))
   go_roundw
   case rel => exact ⟨i + 1, by omega, by go_num, HI3⟩
   case measure => simp [intOf]; omega
  ·have j1 : ¬ (i : Int) < (l : Int) := by omega
   have H2 : Hid (AW K wr P AX AY s s ∧ Below W.heap.size W wr) := ⟨HA.out.below (ns_up HI.out.2.2 (Nat.le_refl _)), ns_up HI.out.2.2 (Nat.le_refl _)⟩
   clear HI
   go_wp2_with fail
   go_loopw [7] (fun q7 wt => ∃ j : Nat, j ≤ n + 2 ∧ q7 = .int .i64 (j : Int) ∧ Hid (AW K wt P AX AY s s ∧ Below W.heap.size W wt)) (fun q7 _ => n + 2 - (intOf q7).toNat)
   case atStart => exact ⟨0, Nat.zero_le _, rfl, H2⟩
   case round =>
    clear H2
    obtain ⟨j, hj, rfl, HJ⟩ := hrel
    rename World => wt
    by_cases hlt2 : j < n + 2
    ·have j2 : (j : Int) ≤ (n : Int) + 1 := by omega
     have HN := hide (HND.out wt (j : Int) HJ.out.1)
     go_wp2_with fail
     refine HN.out.mono ?_
     rintro e w5 ⟨rfl, hU5⟩
     have HJ5 : Hid (AW K w5 P AX AY s s ∧ Below W.heap.size W w5) := ⟨HJ.out.1.below hU5, HJ.out.2.trans (hU5.mono HJ.out.2.size)⟩
     clear hU5 HN
     go_wp2_with fail
     go_roundw
     case rel => exact ⟨j + 1, by omega, by go_num, HJ5⟩
     case measure => simp [intOf]; omega
    ·have j2 : ¬ (j : Int) ≤ (n : Int) + 1 := by omega
     have HF : Hid (BelP W (.returned (.bool true)) wt) := ⟨rfl, HJ.out.2⟩
     go_wp2_with fail
     go_ret
     exact HF.out
theorem wsame_any (h : AW K W P AX AY s s) : Calls Tryz.prog 17 #[.pointer (some ⟨P, 0, none⟩)] W (AwPost K W P AX AY s) := (wsameB_any h).mono fun _ _ hh => ⟨hh.1, h.below hh.2, kept_below hh.2⟩
end
end Go.Proofs.YtpljbgcofmlhbaaGreat
