/- The document's arena: SetHead, SetBody. -/
import Derived.Test.YtfpogjgbmibmcaaROps3
namespace Go.Proofs.Ytfpogjgbmibmcaa
open Go.RowKit
section
variable {W : World} {A g c : Nat} {M D : Nat → Prop} {nodes root : Int} {L : List RS}
def RSetPost (w : World) (A g c : Nat) (M D : Nat → Prop) (nodes root : Int) (L : List RS) (i x : Nat) (p : NP) (e : Ending) (w' : World) : Prop :=
  ∃ D' n, e = .returned (.int .i64 0) ∧ RA w' A g c M D' nodes root (L.set i ⟨x, n⟩) ∧ n.p = p ∧ (∀ k, D' k → D k ∨ w.heap.size ≤ k) ∧ Upd M w w'
/-- Three cells of a row's block. -/
def set3 (W : World) (b o : Nat) (x0 x1 x2 : Value) : World := ((W.setCell ⟨b, o, none⟩ x0).setCell ⟨b, o + 1, none⟩ x1).setCell ⟨b, o + 2, none⟩ x2
theorem set3_upd (S : Nat → Prop) (W : World) (b o : Nat) (x0 x1 x2 : Value) (h : S b) : Upd S W (set3 W b o x0 x1 x2) :=
  (((Upd.refl S W).setCell _ _ (fun _ => h)).setCell _ _ (fun _ => h)).setCell _ _ (fun _ => h)

set_option maxHeartbeats 800000 in
theorem rsetHead_not (h : RA W A g c M D nodes root L) (id lv ri : Int) (t : Tx) (hne : heE L id ≠ 0) :
    Calls Try.prog 35 #[.pointer (some ⟨A, 0, none⟩), .int .i64 id, .agg #[.int .i64 lv, t.v, .int .i64 ri]] W fun e w' => e = .returned (.int .i64 (heE L id)) ∧ Below W.heap.size W w' := by
  obtain ⟨ha, hc, hs⟩ := t
  simp only [Tx.v]
  obtain ⟨w0, hw0⟩ : ∃ w0, w0 = W.alloc (.cells #[.int .i64 lv, .slice ha hs.length hc, .int .i64 ri] 31) := ⟨_, rfl⟩
  have b0 : Below W.heap.size W w0 := by rw [hw0]; exact (Below.refl _ _).alloc (Nat.le_refl _) _
  have HO := hide (rheld_any (h.below b0) id)
  have B0 := hide b0
  have HW := hide hw0
  clear h b0 hw0
  generalize heE L id = er at *
  generalize hs.length = lh at *
  go_enter Try.func35, Try.ntmps35
  go_wp2_with fail
  rw [← HW.out]
  refine keep HO.out ?_
  go_wp2_with fail
  go_ret
  exact ⟨rfl, B0.out⟩
set_option maxHeartbeats 800000 in
theorem rsetBody_not (h : RA W A g c M D nodes root L) (id : Int) (k v : TL) (ci : IL) (hne : heE L id ≠ 0) :
    Calls Try.prog 36 #[.pointer (some ⟨A, 0, none⟩), .int .i64 id, .agg #[k.v, v.v, ci.v]] W fun e w' => e = .returned (.int .i64 (heE L id)) ∧ Below W.heap.size W w' := by
  obtain ⟨ka, kc, K⟩ := k
  obtain ⟨va, vc, V⟩ := v
  obtain ⟨ca, cc, C⟩ := ci
  simp only [TL.v, IL.v]
  obtain ⟨w0, hw0⟩ : ∃ w0, w0 = W.alloc (.cells #[.slice ka K.length kc, .slice va V.length vc, .slice ca C.length cc] 35) := ⟨_, rfl⟩
  have b0 : Below W.heap.size W w0 := by rw [hw0]; exact (Below.refl _ _).alloc (Nat.le_refl _) _
  have HO := hide (rheld_any (h.below b0) id)
  have B0 := hide b0
  have HW := hide hw0
  clear h b0 hw0
  generalize heE L id = er at *
  generalize K.length = lk at *
  generalize V.length = lw at *
  generalize C.length = lc at *
  go_enter Try.func36, Try.ntmps36
  go_wp2_with fail
  rw [← HW.out]
  refine keep HO.out ?_
  go_wp2_with fail
  go_ret
  exact ⟨rfl, B0.out⟩

theorem RA.drew_ (h : RA W A g c M D nodes root L) : RA W.drew A g c M D nodes root L :=
  h.upd (S := Noth) ⟨rfl, rfl, rfl, Nat.le_refl _, fun _ _ _ => rfl⟩ (fun _ _ e => e)
/-- The row behind three stores. -/
theorem RA.set3r {w3 : World} {D' : Nat → Prop} (h : RA w3 A g c M D nodes root L) (i : Nat) (hi : i < L.length) (o : Nat) (ho : o + 3 ≤ 7) (x0 x1 x2 : Value) (s1 s2 s : RS) (e1 : s1.cells = (L[i].cells).set o x0) (e2 : s2.cells = s1.cells.set (o + 1) x1) (e3 : s.cells = s2.cells.set (o + 2) x2)
    (hD : ∀ k, D k → D' k) (hlt : ∀ k, D' k → k < w3.heap.size) (hdj : ∀ k, M k → ¬ D' k) (hok : s.Ok w3 D') : RA (set3 w3 g (i * 7 + o) x0 x1 x2) A g c M D' nodes root (L.set i s) := by
  have hU : Upd (fun k => k = g) w3 (set3 w3 g (i * 7 + o) x0 x1 x2) := set3_upd _ _ _ _ _ _ _ rfl
  refine h.put s hU ?_ hD (fun k hk => Nat.lt_of_lt_of_le (hlt k hk) hU.size) hdj ⟨hok.n.upd hok.d hU (fun k hk e => hdj g h.mg (by rw [← e]; exact hk)), hok.d, hok.w⟩
  have r1 := row7_set h.row i hi o (by omega) x0 s1 e1
  have r2 := row7_set (L := L.set i s1) r1 i (by rw [List.length_set]; exact hi) (o + 1) (by omega) x1 s2 (by rw [List.getElem_set_self]; exact e2)
  rw [List.set_set] at r2
  have r3 := row7_set (L := L.set i s2) r2 i (by rw [List.length_set]; exact hi) (o + 2) (by omega) x2 s (by rw [List.getElem_set_self]; exact e3)
  rw [List.set_set] at r3
  exact r3

set_option maxRecDepth 100000 in
set_option maxHeartbeats 3200000 in
theorem rsetHead_any (h : RA W A g c M D nodes root L) (i : Nat) (hi : i < L.length) (he : L[i].w % 2 = 1) (lv ri : Int) (t : Tx) (ht : t.Ok W) :
    Calls Try.prog 35 #[.pointer (some ⟨A, 0, none⟩), .int .i64 ((i : Int) + 1), .agg #[.int .i64 lv, t.v, .int .i64 ri]] W (RSetPost W A g c M D nodes root L i L[i].w (L[i].n.p.setH lv t.s ri)) := by
  obtain ⟨w0, hw0⟩ : ∃ w0, w0 = W.alloc (.cells #[.int .i64 lv, t.v, .int .i64 ri] 31) := ⟨_, rfl⟩
  have b0 : Below W.heap.size W w0 := by rw [hw0]; exact (Below.refl _ _).alloc (Nat.le_refl _) _
  have g0 : w0.heap[W.heap.size]? = some (.cells #[.int .i64 lv, t.v, .int .i64 ri] 31 (0, 0)) := by rw [hw0]; exact heap_alloc_new W _
  have z0 : w0.heap.size = W.heap.size + 1 := by rw [hw0]; simp
  have HO := hide (rheld_any (h.below b0) ((i : Int) + 1))
  rw [heE_at L i hi, if_neg (by omega)] at HO
  have HCL := hide (rclone_any ⟨lv, t, ri, ⟨none, 0, []⟩, ⟨none, 0, []⟩, ⟨none, 0, []⟩⟩ w0 ⟨ht.below b0, TL.nil_ok _, TL.nil_ok _, IL.nil_ok _, Nat.zero_le _, Nat.zero_le _, Nat.zero_le _⟩)
  have HP := hide h
  have HI := hide hi
  have hn := h.n_le
  -- the end
  have HFIN : Hid (∀ w3 na nc, Below w0.heap.size w0 w3 → OwnB w3 w0.heap.size 5 (.slice na t.s.length nc) t.s → B8 t.s ∧ t.s.length ≤ 140737488351232 → RSetPost W A g c M D nodes root L i L[i].w (L[i].n.p.setH lv t.s ri) (.returned (.int .i64 0)) (set3 w3 g (i * 7 + 1) (.int .i64 lv) (.slice na t.s.length nc) (.int .i64 ri)).drew) := by
    intro w3 na nc hb hv h8
    have bel := b0.trans (hb.mono b0.size)
    have P3 := h.below bel
    have ho := P3.sl L[i] (List.getElem_mem hi)
    have hv' : OwnB w3 w0.heap.size 5 (⟨na, nc, t.s⟩ : Tx).v t.s := hv
    have hin := ownB_in (x := ⟨na, nc, t.s⟩) hv'
    refine ⟨fun k => D k ∨ (w0.heap.size ≤ k ∧ k < w3.heap.size), ⟨lv, ⟨na, nc, t.s⟩, ri, L[i].n.ks, L[i].n.vs, L[i].n.cs⟩, rfl, ?_, rfl, ?_, ?_⟩
    · refine RA.drew_ (P3.set3r i hi 1 (by omega) _ _ _ ⟨L[i].w, ⟨lv, L[i].n.hi, L[i].n.ri, L[i].n.ks, L[i].n.vs, L[i].n.cs⟩⟩ ⟨L[i].w, ⟨lv, ⟨na, nc, t.s⟩, L[i].n.ri, L[i].n.ks, L[i].n.vs, L[i].n.cs⟩⟩ ⟨L[i].w, ⟨lv, ⟨na, nc, t.s⟩, ri, L[i].n.ks, L[i].n.vs, L[i].n.cs⟩⟩ rfl rfl rfl (fun k hk => .inl hk) ?_ ?_ ⟨⟨ownB_ok (x := ⟨na, nc, t.s⟩) hv' h8.1 h8.2, ho.n.k, ho.n.v, ho.n.c, ho.n.kz, ho.n.vz, ho.n.cz⟩, ?_, ho.w⟩)
      · intro k hk
        rcases hk with hk | hk
        · exact P3.lt k (.inr hk)
        · exact hk.2
      · intro k hk hd
        rcases hd with hd | hd
        · exact P3.dj k hk hd
        · have := h.lt k (.inl hk); omega
      · exact ⟨fun x e _ => .inr (hin x e), fun x e l => .inl (ho.d.k x e l), fun y hy x e l => .inl (ho.d.ke y hy x e l), fun x e l => .inl (ho.d.v x e l), fun y hy x e l => .inl (ho.d.ve y hy x e l), fun x e l => .inl (ho.d.c x e l)⟩
    · intro k hk
      rcases hk with hk | hk
      · exact .inl hk
      · right; omega
    · exact ((Upd.of_below bel M).trans (set3_upd _ _ _ _ _ _ _ h.mg)).drew
  have HB8 : Hid (B8 t.s ∧ t.s.length ≤ 140737488351232) := ⟨ht.b8, ht.z⟩
  have HR : Hid (∀ W', Below w0.heap.size w0 W' → RA W' A g c M D nodes root L) := fun W' hb => (h.below b0).below hb
  generalize RSetPost W A g c M D nodes root L i L[i].w (L[i].n.p.setH lv t.s ri) = PO at *
  obtain ⟨ha, hc, hs⟩ := t
  simp only [Nd.v, Tx.v, TL.v, IL.v, List.length_nil] at HCL HFIN g0 hw0 HB8 ⊢
  obtain ⟨lh, hlh⟩ : ∃ lh, hs.length = lh := ⟨_, rfl⟩
  rw [hlh] at HCL g0 hw0 ⊢
  have HLH := hide hlh
  clear h he ht hlh
  have G0 := hide g0
  obtain ⟨id, hid⟩ : ∃ id, id = (i : Int) + 1 := ⟨_, rfl⟩
  rw [← hid] at HO ⊢
  obtain ⟨n, hln⟩ : ∃ n, L.length = n := ⟨_, rfl⟩
  rw [hln] at hn hi
  have HLN := hide hln
  have j4 : (i : Int) < (n : Int) := by omega
  have j3 : id - 1 = (i : Int) := by omega
  have j5 : id ≤ 65536 := by omega
  have j6 : 1 ≤ id := by omega
  obtain ⟨t0, t1, t2⟩ := Tri.of g0
  have B0 := hide b0
  have HW := hide hw0
  have Z0 := hide z0
  clear g0 b0 hw0 z0 hid hln
  go_enter Try.func35, Try.ntmps35
  go_wp2_with fail
  rw [← HW.out]
  refine keep HO.out ?_
  go_wp2_with fail
  refine HCL.out.mono ?_
  rintro e w2 ⟨⟨lv', ⟨na, nc, ns⟩, ri', ⟨kn, kd, K'⟩, ⟨vn, vd, V'⟩, ⟨cn, cd, C'⟩⟩, N1, N2, rfl, hp, hown, hb2, _, _, _, _, _⟩
  simp only [Nd.p, NP.mk.injEq] at hp
  obtain ⟨rfl, rfl, rfl, _, _, _⟩ := hp
  have hv2 : OwnB w2 w0.heap.size 5 (.slice na lh nc) ns := by have := hown.h; simp only [Tx.v, HLH.out] at this; exact this
  have V2 := hide hv2
  have B2 := hide hb2
  simp only [Nd.v, Tx.v, TL.v, IL.v, HLH.out]
  clear hv2 hown hb2 HCL t0 t1 t2
  generalize K'.length = lk' at *
  generalize V'.length = lw' at *
  generalize C'.length = lc' at *
  obtain ⟨w3, hw3⟩ : ∃ w3, w3 = w2.alloc (.cells #[.int .i64 lv', .slice na lh nc, .int .i64 ri', .slice kn lk' kd, .slice vn lw' vd, .slice cn lc' cd] 37) := ⟨_, rfl⟩
  have b3 : Below w2.heap.size w2 w3 := by rw [hw3]; exact (Below.refl _ _).alloc (Nat.le_refl _) _
  have b03 := B2.out.trans (b3.mono B2.out.size)
  have g3 : w3.heap[w2.heap.size]? = some (.cells #[.int .i64 lv', .slice na lh nc, .int .i64 ri', .slice kn lk' kd, .slice vn lw' vd, .slice cn lc' cd] 37 (0, 0)) := by rw [hw3]; exact heap_alloc_new w2 _
  obtain ⟨y0, y1, y2, _, _, _⟩ := Six.of g3
  have P3 := HR.out w3 b03
  obtain ⟨_, c1, _⟩ := P3.cells
  rw [HLN.out] at c1
  have F3 := fun j => P3.frozen j
  obtain ⟨k1, k2, k3, _, _, _⟩ := P3.ncells i HI.out
  have HF := hide (HFIN.out w3 na nc b03 (by rw [HLH.out]; exact V2.out.below b3) HB8.out)
  rw [HLH.out] at HF
  generalize L[i].n = nd at *
  have HW3 := hide hw3
  clear hw3 b3 b03 P3 g3 HFIN HR
  go_wp2_with fail
  rw [← HW3.out]
  have j7 : IntKind.i64.wrap (id - 1) = (i : Int) := by rw [IntKind.wrap_i64]; omega
  have j8 : (0 : Int) ≤ (i : Int) := by omega
  have j9 : (i : Int) ≤ (n : Int) := by omega
  go_region
  go_wp2_with fail
  exact HF.out
set_option maxRecDepth 100000 in
set_option maxHeartbeats 3200000 in
theorem rsetBody_any (h : RA W A g c M D nodes root L) (i : Nat) (hi : i < L.length) (he : L[i].w % 2 = 1) (k v : TL) (ci : IL) (hk : k.Ok W) (hv : v.Ok W) (hc : ci.Ok W) (kz : k.L.length * 24 ≤ 140737488352000) (vz : v.L.length * 24 ≤ 140737488352000) (cz : ci.s.length * 8 ≤ 140737488352000) :
    Calls Try.prog 36 #[.pointer (some ⟨A, 0, none⟩), .int .i64 ((i : Int) + 1), .agg #[k.v, v.v, ci.v]] W (RSetPost W A g c M D nodes root L i L[i].w (L[i].n.p.setB k.p v.p ci.s)) := by
  obtain ⟨w0, hw0⟩ : ∃ w0, w0 = W.alloc (.cells #[k.v, v.v, ci.v] 35) := ⟨_, rfl⟩
  have b0 : Below W.heap.size W w0 := by rw [hw0]; exact (Below.refl _ _).alloc (Nat.le_refl _) _
  have g0 : w0.heap[W.heap.size]? = some (.cells #[k.v, v.v, ci.v] 35 (0, 0)) := by rw [hw0]; exact heap_alloc_new W _
  have z0 : w0.heap.size = W.heap.size + 1 := by rw [hw0]; simp
  have HO := hide (rheld_any (h.below b0) ((i : Int) + 1))
  rw [heE_at L i hi, if_neg (by omega)] at HO
  have HCL := hide (rclone_any ⟨0, ⟨none, 0, []⟩, 0, k, v, ci⟩ w0 ⟨Tx.nil_ok _, hk.below b0, hv.below b0, hc.below b0, kz, vz, cz⟩)
  have HP := hide h
  have HI := hide hi
  have hn := h.n_le
  -- the end
  have HFIN : Hid (∀ w3 kn kd K' vn vd V' cn cd, Below w0.heap.size w0 w3 → K'.map (·.s) = k.L.map (·.s) → V'.map (·.s) = v.L.map (·.s) → K'.length = k.L.length → V'.length = v.L.length → (⟨kn, kd, K'⟩ : TL).Own w3 w0.heap.size → (⟨vn, vd, V'⟩ : TL).Own w3 w0.heap.size → w3.ownsRow w0.heap.size 3 1 (.slice cn ci.s.length cd) ci.s.length (ci.s.map (Value.int .i64)) →
      RSetPost W A g c M D nodes root L i L[i].w (L[i].n.p.setB k.p v.p ci.s) (.returned (.int .i64 0)) (set3 w3 g (i * 7 + 4) (.slice kn k.L.length kd) (.slice vn v.L.length vd) (.slice cn ci.s.length cd)).drew) := by
    intro w3 kn kd K' vn vd V' cn cd hb p1 p2 l1 l2 q1 q2 q3
    have bel := b0.trans (hb.mono b0.size)
    have P3 := h.below bel
    have ho := P3.sl L[i] (List.getElem_mem hi)
    have e1 : (⟨kn, kd, K'⟩ : TL).v = .slice kn k.L.length kd := by simp only [TL.v, l1]
    have e2 : (⟨vn, vd, V'⟩ : TL).v = .slice vn v.L.length vd := by simp only [TL.v, l2]
    obtain ⟨m, hm⟩ : ∃ m : Nd, m = ⟨L[i].n.lv, L[i].n.hi, L[i].n.ri, ⟨kn, kd, K'⟩, ⟨vn, vd, V'⟩, ⟨cn, cd, ci.s⟩⟩ := ⟨_, rfl⟩
    refine ⟨fun k => D k ∨ (w0.heap.size ≤ k ∧ k < w3.heap.size), m, rfl, ?_, ?_, ?_, ?_⟩
    · rw [hm]
      refine RA.drew_ (P3.set3r i hi 4 (by omega) _ _ _ ⟨L[i].w, ⟨L[i].n.lv, L[i].n.hi, L[i].n.ri, ⟨kn, kd, K'⟩, L[i].n.vs, L[i].n.cs⟩⟩ ⟨L[i].w, ⟨L[i].n.lv, L[i].n.hi, L[i].n.ri, ⟨kn, kd, K'⟩, ⟨vn, vd, V'⟩, L[i].n.cs⟩⟩ ⟨L[i].w, ⟨L[i].n.lv, L[i].n.hi, L[i].n.ri, ⟨kn, kd, K'⟩, ⟨vn, vd, V'⟩, ⟨cn, cd, ci.s⟩⟩⟩ (by rw [← e1]; rfl) (by rw [← e2]; rfl) rfl (fun k hk => .inl hk) ?_ ?_ ⟨⟨ho.n.h, q1.ok, q2.ok, il_of_owns (t := ⟨cn, cd, ci.s⟩) q3, ?_, ?_, cz⟩, ?_, ho.w⟩)
      · intro k hk
        rcases hk with hk | hk
        · exact P3.lt k (.inr hk)
        · exact hk.2
      · intro k hk hd
        rcases hd with hd | hd
        · exact P3.dj k hk hd
        · have := h.lt k (.inl hk); omega
      · simp only [l1]; exact kz
      · simp only [l2]; exact vz
      · exact ⟨fun x e l => .inl (ho.d.h x e l), fun x e _ => .inr (owns_in q1.row x e), fun y hy x e _ => .inr (ownB_in (q1.each y hy) x e), fun x e _ => .inr (owns_in q2.row x e), fun y hy x e _ => .inr (ownB_in (q2.each y hy) x e), fun x e _ => .inr (owns_in q3 x e)⟩
    · rw [hm]
      simp only [Nd.p, NP.setB, TL.p, p1, p2]
    · intro k hk
      rcases hk with hk | hk
      · exact .inl hk
      · right; omega
    · exact ((Upd.of_below bel M).trans (set3_upd _ _ _ _ _ _ _ h.mg)).drew
  have HR : Hid (∀ W', Below w0.heap.size w0 W' → RA W' A g c M D nodes root L) := fun W' hb => (h.below b0).below hb
  generalize RSetPost W A g c M D nodes root L i L[i].w (L[i].n.p.setB k.p v.p ci.s) = PO at *
  obtain ⟨ka, kc, K⟩ := k
  obtain ⟨va, vc, V⟩ := v
  obtain ⟨ca, cc, C⟩ := ci
  simp only [Nd.v, Tx.v, TL.v, IL.v, List.length_nil] at HCL HFIN g0 hw0 ⊢
  obtain ⟨lk, hlk⟩ : ∃ lk, K.length = lk := ⟨_, rfl⟩
  obtain ⟨lw, hlw⟩ : ∃ lw, V.length = lw := ⟨_, rfl⟩
  obtain ⟨lc, hlc⟩ : ∃ lc, C.length = lc := ⟨_, rfl⟩
  rw [hlk, hlw, hlc] at HCL g0 hw0 ⊢
  have HLK := hide hlk
  have HLW := hide hlw
  have HLC := hide hlc
  clear h he hk hv hc kz vz cz hlk hlw hlc
  have G0 := hide g0
  obtain ⟨id, hid⟩ : ∃ id, id = (i : Int) + 1 := ⟨_, rfl⟩
  rw [← hid] at HO ⊢
  obtain ⟨n, hln⟩ : ∃ n, L.length = n := ⟨_, rfl⟩
  rw [hln] at hn hi
  have HLN := hide hln
  have j4 : (i : Int) < (n : Int) := by omega
  have j3 : id - 1 = (i : Int) := by omega
  have j5 : id ≤ 65536 := by omega
  have j6 : 1 ≤ id := by omega
  obtain ⟨t0, t1, t2⟩ := Tri.of g0
  have B0 := hide b0
  have HW := hide hw0
  have Z0 := hide z0
  clear g0 b0 hw0 z0 hid hln
  go_enter Try.func36, Try.ntmps36
  go_wp2_with fail
  rw [← HW.out]
  refine keep HO.out ?_
  go_wp2_with fail
  refine HCL.out.mono ?_
  rintro e w2 ⟨⟨lv', ⟨na, nc, ns⟩, ri', ⟨kn, kd, K'⟩, ⟨vn, vd, V'⟩, ⟨cn, cd, C'⟩⟩, N1, N2, rfl, hp, hown, hb2, _, _, _, _, _⟩
  simp only [Nd.p, NP.mk.injEq] at hp
  obtain ⟨rfl, rfl, rfl, hp1, hp2, rfl⟩ := hp
  have l1 : K'.length = lk := by have := congrArg List.length hp1; simp only [TL.p, List.length_map] at this; rw [this]; exact HLK.out
  have l2 : V'.length = lw := by have := congrArg List.length hp2; simp only [TL.p, List.length_map] at this; rw [this]; exact HLW.out
  have P1 : Hid (K'.map (·.s) = K.map (·.s) ∧ V'.map (·.s) = V.map (·.s) ∧ K'.length = lk ∧ V'.length = lw) := ⟨hp1, hp2, l1, l2⟩
  have hv2 := And.intro hown.k (And.intro hown.v hown.c)
  simp only [IL.v, HLC.out] at hv2
  have V2 := hide hv2
  have B2 := hide hb2
  simp only [Nd.v, Tx.v, TL.v, IL.v, l1, l2, HLC.out, List.length_nil]
  clear hv2 hown hb2 HCL hp1 hp2 l1 l2 t0 t1 t2
  obtain ⟨w3, hw3⟩ : ∃ w3, w3 = w2.alloc (.cells #[.int .i64 0, .slice na 0 nc, .int .i64 0, .slice kn lk kd, .slice vn lw vd, .slice cn lc cd] 37) := ⟨_, rfl⟩
  have b3 : Below w2.heap.size w2 w3 := by rw [hw3]; exact (Below.refl _ _).alloc (Nat.le_refl _) _
  have b03 := B2.out.trans (b3.mono B2.out.size)
  have g3 : w3.heap[w2.heap.size]? = some (.cells #[.int .i64 0, .slice na 0 nc, .int .i64 0, .slice kn lk kd, .slice vn lw vd, .slice cn lc cd] 37 (0, 0)) := by rw [hw3]; exact heap_alloc_new w2 _
  obtain ⟨y3, y4, y5⟩ := (Six.of g3).2.2.2
  have P3 := HR.out w3 b03
  obtain ⟨_, c1, _⟩ := P3.cells
  rw [HLN.out] at c1
  have F3 := fun j => P3.frozen j
  obtain ⟨k1, k2, k3⟩ := (P3.ncells i HI.out).2.2.2
  obtain ⟨p1, p2, l1, l2⟩ := P1.out
  have HF := hide (HFIN.out w3 kn kd K' vn vd V' cn cd b03 p1 p2 (l1.trans HLK.out.symm) (l2.trans HLW.out.symm) (V2.out.1.below b3) (V2.out.2.1.below b3) (by rw [HLC.out]; exact owns_below V2.out.2.2 b3))
  rw [HLK.out, HLW.out, HLC.out] at HF
  clear p1 p2 l1 l2
  generalize L[i].n = nd at *
  have HW3 := hide hw3
  clear hw3 b3 b03 P3 g3 HFIN HR
  go_wp2_with fail
  rw [← HW3.out]
  have j7 : IntKind.i64.wrap (id - 1) = (i : Int) := by rw [IntKind.wrap_i64]; omega
  have j8 : (0 : Int) ≤ (i : Int) := by omega
  have j9 : (i : Int) ≤ (n : Int) := by omega
  go_region
  go_wp2_with fail
  exact HF.out
end

end Go.Proofs.Ytfpogjgbmibmcaa
