/- arena: copyHead, copyBody. -/
import Derived.Test.YtfpogjgbmibmcaaACopy
namespace Go.Proofs.Ytfpogjgbmibmcaa
open Go.RowKit

/-- Three cells of a block. -/
def Tri (W : World) (b : Nat) (x0 x1 x2 : Value) : Prop := W.cell? ⟨b, 0, none⟩ = some x0 ∧ W.cell? ⟨b, 1, none⟩ = some x1 ∧ W.cell? ⟨b, 2, none⟩ = some x2
theorem Tri.below {W W' : World} {b : Nat} {x0 x1 x2 : Value} (h : Tri W b x0 x1 x2) (hb : Below W.heap.size W W') : Tri W' b x0 x1 x2 := by
  have hl : b < W.heap.size := World.block_lt_of_cell? W ⟨b, 0, none⟩ h.1
  obtain ⟨h0, h1, h2⟩ := h
  exact ⟨(hb.cell (p := ⟨b, 0, none⟩) hl).trans h0, (hb.cell (p := ⟨b, 1, none⟩) hl).trans h1, (hb.cell (p := ⟨b, 2, none⟩) hl).trans h2⟩
theorem Tri.of {W : World} {b : Nat} {T : TypeId} {x0 x1 x2 : Value} (h : W.heap[b]? = some (.cells #[x0, x1, x2] T (0, 0))) : Tri W b x0 x1 x2 := by
  refine ⟨?_, ?_, ?_⟩ <;> (rw [cell_of_row _ _ _ _ _ _ h]; rfl)
def tri3 (W : World) (b : Nat) (x0 x1 x2 : Value) : World := ((W.setCell ⟨b, 0, none⟩ x0).setCell ⟨b, 1, none⟩ x1).setCell ⟨b, 2, none⟩ x2
theorem tri_block {W : World} {b : Nat} {T : TypeId} {a0 a1 a2 : Value} (h : W.heap[b]? = some (.cells #[a0, a1, a2] T (0, 0))) (x0 x1 x2 : Value) : (tri3 W b x0 x1 x2).heap[b]? = some (.cells #[x0, x1, x2] T (0, 0)) := by
  have := block_setCell (block_setCell (block_setCell h 0 x0) 1 x1) 2 x2
  exact this
theorem tri_upd (S : Nat → Prop) (W : World) (b : Nat) (x0 x1 x2 : Value) (h : S b) : Upd S W (tri3 W b x0 x1 x2) :=
  (((Upd.refl S W).setCell _ _ (fun _ => h)).setCell _ _ (fun _ => h)).setCell _ _ (fun _ => h)

/-- A head of one's own. -/
def HcPost (w : World) (lv ri : Int) (l : Nat) (hs : List Int) (e : Ending) (w' : World) : Prop :=
  ∃ a c, e = .returned (.agg #[.int .i64 lv, .slice a l c, .int .i64 ri]) ∧ OwnB w' w.heap.size 5 (.slice a l c) hs ∧ Below w.heap.size w w'
set_option maxRecDepth 100000 in
set_option maxHeartbeats 1600000 in
theorem copyHead_any (lv ri : Int) (t : Tx) (w : World) (ht : t.Ok w) :
    Calls Try.prog 49 #[.agg #[.int .i64 lv, t.v, .int .i64 ri]] w (HcPost w lv ri t.s.length t.s) := by
  obtain ⟨ha, hc, hs⟩ := t
  have HH : Hid (∀ W, Below w.heap.size w W → Calls Try.prog 62 #[.slice ha hs.length hc] W fun e w' => ∃ v, e = .returned v ∧ OwnB w' W.heap.size 5 v hs ∧ Below W.heap.size W w') := fun W h => bclone_any ha hs.length hc hs W rfl (by have := ht.z; simp only at this; omega) ht.n (ht.below h).r
  clear ht
  simp only [Tx.v]
  obtain ⟨lh, hlh⟩ : ∃ lh, hs.length = lh := ⟨_, rfl⟩
  rw [hlh] at HH ⊢
  replace hlh := hide hlh
  obtain ⟨w0, hw0⟩ : ∃ w0, w0 = w.alloc (.cells #[.int .i64 lv, .slice ha lh hc, .int .i64 ri] 31) := ⟨_, rfl⟩
  obtain ⟨w1, hw1⟩ : ∃ w1, w1 = w0.alloc (.cells #[.int .i64 0, .slice none 0 0, .int .i64 0] 31) := ⟨_, rfl⟩
  have z0 : w0.heap.size = w.heap.size + 1 := by rw [hw0]; simp
  have z1 : w1.heap.size = w.heap.size + 2 := by rw [hw1]; simp; omega
  have b0 : Below w.heap.size w w0 := by rw [hw0]; exact (Below.refl _ _).alloc (Nat.le_refl _) _
  have b1 : Below w0.heap.size w0 w1 := by rw [hw1]; exact (Below.refl _ _).alloc (Nat.le_refl _) _
  have B1 : Hid (Below w.heap.size w w1) := b0.trans (b1.mono b0.size)
  have g0 : w0.heap[w.heap.size]? = some (.cells #[.int .i64 lv, .slice ha lh hc, .int .i64 ri] 31 (0, 0)) := by rw [hw0]; exact heap_alloc_new w _
  have G1 : Hid (w1.heap[w.heap.size + 1]? = some (.cells #[.int .i64 0, .slice none 0 0, .int .i64 0] 31 (0, 0))) := by show _ = _; rw [← z0, hw1]; exact heap_alloc_new w0 _
  have S1 := hide ((Tri.of g0).below b1)
  obtain ⟨c0, c1, c2⟩ := S1.out
  have HW : Hid ((w.alloc (.cells #[.int .i64 lv, .slice ha lh hc, .int .i64 ri] 31)).alloc (.cells #[.int .i64 0, .slice none 0 0, .int .i64 0] 31) = w1) := by show _ = _; rw [hw1, hw0]
  have Z1 := hide z1
  clear hw0 hw1 z0 z1 b0 b1 g0
  go_enter Try.func49, Try.ntmps49
  go_wp2_with fail
  rw [HW.out]
  clear HW
  go_region_held3 (fun W => W.cell? ⟨w.heap.size, 0, none⟩ = some (.int .i64 lv) ∧ W.cell? ⟨w.heap.size, 1, none⟩ = some (.slice ha lh hc) ∧ W.cell? ⟨w.heap.size, 2, none⟩ = some (.int .i64 ri)) (go_keep) (first
    | (go_at_call 62; refine (HH.out w1.drew (below_drew B1.out)).mono ?_; rintro e w2 ⟨v2, rfl, hv2, hb2'⟩; have hb2 : Below w1.heap.size w1 w2 := ⟨hb2'.os, hb2'.tape, hb2'.output, hb2'.size, hb2'.block⟩; obtain ⟨hn', hd', hve, _, _, _⟩ := hv2.slice; rw [hlh.out] at hve; subst hve; have V2 := hide hv2; have B12 := hide hb2; have B2 := hide (B1.out.trans (hb2.mono B1.out.size)); have S2 := hide (S1.out.below hb2); obtain ⟨d0, d1, d2⟩ := S2.out; have G2 : Hid (w2.heap[w.heap.size + 1]? = some (.cells #[.int .i64 0, .slice none 0 0, .int .i64 0] 31 (0, 0))) := (hb2.block _ (lt_of_block G1.out)).trans G1.out; obtain ⟨y0, y1, y2⟩ := Tri.of G2.out; have F5 := fun j => frozen_of G2.out j; clear hv2 hb2 hb2')
    | fail)
  go_wp2_with fail
  (try simp only [Exit.inBlock, Exit.then])
  clear HH c0 c1 c2 d0 d1 d2
  have hz1 := Z1.out
  have h12 := B12.out.size
  have G6 := tri_block G2.out (.int .i64 lv) (.slice hn' lh hd') (.int .i64 ri)
  have U6 : Upd (fun b => b = w.heap.size + 1) w2 (tri3 w2 (w.heap.size + 1) (.int .i64 lv) (.slice hn' lh hd') (.int .i64 ri)) := tri_upd _ _ _ _ _ _ rfl
  obtain ⟨q0, q1, q2⟩ := Tri.of G6
  show bodyPost _ _ _ _ _ (tri3 w2 (w.heap.size + 1) (.int .i64 lv) (.slice hn' lh hd') (.int .i64 ri))
  generalize tri3 w2 (w.heap.size + 1) (.int .i64 lv) (.slice hn' lh hd') (.int .i64 ri) = w6 at *
  refine bodyPost_ret (v := .agg #[.int .i64 lv, .slice hn' lh hd', .int .i64 ri]) (by simp [results, Try.results49, go_sem, q0, q1, q2]) rfl ⟨hn', hd', rfl, ?_, ?_⟩
  · have a2 : OwnB w2 w1.heap.size 5 (.slice hn' lh hd') hs := V2.out
    exact (ownB_upd' a2 U6 (fun b h1 h2 h3 => by omega)).mono (by omega)
  · exact B2.out.trans (U6.below (by have := B2.out.size; omega) (fun k hk e => by omega))

theorem copyTexts_p (a : Option Addr) (l c : Nat) (L : List Tx) (W : World) (h : (⟨a, c, L⟩ : TL).Ok W) (hl : L.length = l) (hm : l * 24 ≤ 140737488355000) : Calls Try.prog 63 #[.slice a l c] W (CtP W L l) := by
  subst hl
  refine (copyTexts_any ⟨a, c, L⟩ W h hm).mono ?_
  rintro e w' ⟨⟨a', c', L'⟩, rfl, hp, ho, hb⟩
  have hp' : L'.map (·.s) = L.map (·.s) := hp
  have hll : L'.length = L.length := by have := congrArg List.length hp'; simpa using this
  exact ⟨a', c', L', by simp only [TL.v, hll], hp', hll, ho, hb⟩
/-- A body of one's own: m has its lists. -/
def BcPost (w : World) (lk lw lc : Nat) (K V : List Tx) (C : List Int) (e : Ending) (w' : World) : Prop :=
  ∃ kn kd K' vn vd V' cn cd, e = .returned (.agg #[.slice kn lk kd, .slice vn lw vd, .slice cn lc cd]) ∧ K'.map (·.s) = K.map (·.s) ∧ V'.map (·.s) = V.map (·.s) ∧ K'.length = lk ∧ V'.length = lw ∧
    (⟨kn, kd, K'⟩ : TL).Own w' w.heap.size ∧ (⟨vn, vd, V'⟩ : TL).Own w' w.heap.size ∧ w'.ownsRow w.heap.size 3 1 (.slice cn lc cd) lc (C.map (Value.int .i64)) ∧ Below w.heap.size w w'
set_option maxRecDepth 100000 in
set_option maxHeartbeats 3200000 in
theorem copyBody_any (k v : TL) (c : IL) (w : World) (hk : k.Ok w) (hv : v.Ok w) (hc : c.Ok w) (kz : k.L.length * 24 ≤ 140737488352000) (vz : v.L.length * 24 ≤ 140737488352000) (cz : c.s.length * 8 ≤ 140737488352000) :
    Calls Try.prog 50 #[.agg #[k.v, v.v, c.v]] w (BcPost w k.L.length v.L.length c.s.length k.L v.L c.s) := by
  obtain ⟨ka, kc, K⟩ := k
  obtain ⟨va, vc, V⟩ := v
  obtain ⟨ca, cc, C⟩ := c
  simp only at kz vz cz
  have HK : Hid (∀ W, Below w.heap.size w W → Calls Try.prog 63 #[.slice ka K.length kc] W (CtP W K K.length)) := fun W h => copyTexts_p ka K.length kc K W (hk.below h) rfl (by omega)
  have HV : Hid (∀ W, Below w.heap.size w W → Calls Try.prog 63 #[.slice va V.length vc] W (CtP W V V.length)) := fun W h => copyTexts_p va V.length vc V W (hv.below h) rfl (by omega)
  have HC : Hid (∀ W, Below w.heap.size w W → Calls Try.prog 64 #[.slice ca C.length cc] W (LiPost W 3 (C.map (Value.int .i64)))) := fun W h => clistI_any ca C.length cc _ W (by simp) (hc.below h).vok (i_oneCell C) (by omega)
  clear hk hv hc kz vz cz
  simp only [TL.v, IL.v]
  obtain ⟨lk, hlk⟩ : ∃ lk, K.length = lk := ⟨_, rfl⟩
  obtain ⟨lw, hlw⟩ : ∃ lw, V.length = lw := ⟨_, rfl⟩
  obtain ⟨lc, hlc⟩ : ∃ lc, C.length = lc := ⟨_, rfl⟩
  rw [hlk] at HK
  rw [hlw] at HV
  rw [hlc] at HC
  rw [hlk, hlw, hlc]
  replace hlk := hide hlk
  replace hlw := hide hlw
  replace hlc := hide hlc
  obtain ⟨w0, hw0⟩ : ∃ w0, w0 = w.alloc (.cells #[.slice ka lk kc, .slice va lw vc, .slice ca lc cc] 35) := ⟨_, rfl⟩
  obtain ⟨w1, hw1⟩ : ∃ w1, w1 = w0.alloc (.cells #[.slice none 0 0, .slice none 0 0, .slice none 0 0] 35) := ⟨_, rfl⟩
  have z0 : w0.heap.size = w.heap.size + 1 := by rw [hw0]; simp
  have z1 : w1.heap.size = w.heap.size + 2 := by rw [hw1]; simp; omega
  have b0 : Below w.heap.size w w0 := by rw [hw0]; exact (Below.refl _ _).alloc (Nat.le_refl _) _
  have b1 : Below w0.heap.size w0 w1 := by rw [hw1]; exact (Below.refl _ _).alloc (Nat.le_refl _) _
  have B1 : Hid (Below w.heap.size w w1) := b0.trans (b1.mono b0.size)
  have g0 : w0.heap[w.heap.size]? = some (.cells #[.slice ka lk kc, .slice va lw vc, .slice ca lc cc] 35 (0, 0)) := by rw [hw0]; exact heap_alloc_new w _
  have G1 : Hid (w1.heap[w.heap.size + 1]? = some (.cells #[.slice none 0 0, .slice none 0 0, .slice none 0 0] 35 (0, 0))) := by show _ = _; rw [← z0, hw1]; exact heap_alloc_new w0 _
  have S1 := hide ((Tri.of g0).below b1)
  obtain ⟨c0, c1, c2⟩ := S1.out
  have HW : Hid ((w.alloc (.cells #[.slice ka lk kc, .slice va lw vc, .slice ca lc cc] 35)).alloc (.cells #[.slice none 0 0, .slice none 0 0, .slice none 0 0] 35) = w1) := by show _ = _; rw [hw1, hw0]
  have Z1 := hide z1
  clear hw0 hw1 z0 z1 b0 b1 g0
  go_enter Try.func50, Try.ntmps50
  go_wp2_with fail
  rw [HW.out]
  clear HW
  go_region_held3 (fun W => W.cell? ⟨w.heap.size, 0, none⟩ = some (.slice ka lk kc) ∧ W.cell? ⟨w.heap.size, 1, none⟩ = some (.slice va lw vc) ∧ W.cell? ⟨w.heap.size, 2, none⟩ = some (.slice ca lc cc)) (go_keep) (first
    | (go_at_call 64; refine (HC.out w4 B4.out).mono ?_; rintro e w5 ⟨v5, rfl, hv5, hb5⟩; obtain ⟨cn, cd, rfl, _⟩ := vok_of_owns hv5; rw [List.length_map, hlc.out] at hv5 ⊢; have V5 := hide hv5; have B45 := hide hb5; have B5 := hide (B4.out.trans (hb5.mono B4.out.size)); obtain ⟨i0, i1, i2⟩ := S4.out.below hb5; have G5 : Hid (w5.heap[w.heap.size + 1]? = some (.cells #[.slice none 0 0, .slice none 0 0, .slice none 0 0] 35 (0, 0))) := (hb5.block _ (lt_of_block G4.out)).trans G4.out; obtain ⟨y0, y1, y2⟩ := Tri.of G5.out; have F5 := fun j => frozen_of G5.out j; clear hv5 hb5)
    | (go_at_call 63; refine (HV.out w3 B3.out).mono ?_; rintro e w4 ⟨vn, vd, V', rfl, hp4, hl4, ho4, hb4⟩; have P4 := hide hp4; have O4 := hide ho4; have L4 := hide hl4; have B34 := hide hb4; have B4 := hide (B3.out.trans (hb4.mono B3.out.size)); have S4 := hide (S3.out.below hb4); obtain ⟨f0, f1, f2⟩ := S4.out; have G4 : Hid (w4.heap[w.heap.size + 1]? = some (.cells #[.slice none 0 0, .slice none 0 0, .slice none 0 0] 35 (0, 0))) := (hb4.block _ (lt_of_block G3.out)).trans G3.out; clear hp4 ho4 hb4 hl4)
    | (go_at_call 63; refine (HK.out w1.drew (below_drew B1.out)).mono ?_; rintro e w3 ⟨kn, kd, K', rfl, hp3, hl3, ho3, hb3'⟩; have hb3 : Below w1.heap.size w1 w3 := ⟨hb3'.os, hb3'.tape, hb3'.output, hb3'.size, hb3'.block⟩; have P3 := hide hp3; have O3 := hide ho3; have L3 := hide hl3; have B23 := hide hb3; have B3 := hide (B1.out.trans (hb3.mono B1.out.size)); have S3 := hide (S1.out.below hb3); obtain ⟨e0, e1, e2⟩ := S3.out; have G3 : Hid (w3.heap[w.heap.size + 1]? = some (.cells #[.slice none 0 0, .slice none 0 0, .slice none 0 0] 35 (0, 0))) := (hb3.block _ (lt_of_block G1.out)).trans G1.out; clear hp3 ho3 hb3 hb3' hl3)
    | fail)
  go_wp2_with fail
  (try simp only [Exit.inBlock, Exit.then])
  clear HK HV HC c0 c1 c2 e0 e1 e2 f0 f1 f2
  have hz1 := Z1.out
  have h23 := B23.out.size
  have h34 := B34.out.size
  have h45 := B45.out.size
  have G6 := tri_block G5.out (.slice kn lk kd) (.slice vn lw vd) (.slice cn lc cd)
  have U6 : Upd (fun b => b = w.heap.size + 1) w5 (tri3 w5 (w.heap.size + 1) (.slice kn lk kd) (.slice vn lw vd) (.slice cn lc cd)) := tri_upd _ _ _ _ _ _ rfl
  obtain ⟨q0, q1, q2⟩ := Tri.of G6
  show bodyPost _ _ _ _ _ (tri3 w5 (w.heap.size + 1) (.slice kn lk kd) (.slice vn lw vd) (.slice cn lc cd))
  generalize tri3 w5 (w.heap.size + 1) (.slice kn lk kd) (.slice vn lw vd) (.slice cn lc cd) = w6 at *
  have b35 : Below w3.heap.size w3 w5 := B34.out.trans (B45.out.mono B34.out.size)
  refine bodyPost_ret (v := .agg #[.slice kn lk kd, .slice vn lw vd, .slice cn lc cd]) (by simp [results, Try.results50, go_sem, q0, q1, q2]) rfl ⟨kn, kd, K', vn, vd, V', cn, cd, rfl, P3.out, P4.out, L3.out, L4.out, ?_, ?_, ?_, ?_⟩
  · have a3 : (⟨kn, kd, K'⟩ : TL).Own w3 w1.heap.size := O3.out
    exact ((a3.below b35).upd U6 (fun b h1 h2 h3 => by omega)).mono (by omega)
  · exact ((O4.out.below B45.out).upd U6 (fun b h1 h2 h3 => by omega)).mono (by omega)
  · exact owns_mono (ownsI_upd V5.out U6 (fun b h1 h2 h3 => by omega)) (by omega)
  · exact B5.out.trans (U6.below (by have := B5.out.size; omega) (fun k hk e => by omega))

end Go.Proofs.Ytfpogjgbmibmcaa
