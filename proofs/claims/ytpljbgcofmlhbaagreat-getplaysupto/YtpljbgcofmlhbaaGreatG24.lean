/- The document's arena: SetHead, SetBody. -/
import Derived.Test.YtpljbgcofmlhbaaGreatG23
import Derived.Test.YtpljbgcofmlhbaaGreatG14
namespace Go.Proofs.YtpljbgcofmlhbaaGreat
open Go.RowKit
set_option maxRecDepth 100000
section
variable {W : World} {A g c : Nat} {M D : Nat → Prop} {nodes root : Int} {L : List RS}
def RSetPost (w : World) (A g c : Nat) (M D : Nat → Prop) (nodes root : Int) (L : List RS) (i x : Nat) (p : NP) (e : Ending) (w' : World) : Prop :=
 ∃ D' n, e = .returned (.int .i64 0) ∧ RA w' A g c M D' nodes root (L.set i ⟨x, n⟩) ∧ n.p = p ∧ (∀ k, D' k → D k ∨ w.heap.size ≤ k) ∧ Upd M w w'
def set3 (W : World) (b o : Nat) (x0 x1 x2 : Value) : World := ((W.setCell ⟨b, o, none⟩ x0).setCell ⟨b, o + 1, none⟩ x1).setCell ⟨b, o + 2, none⟩ x2
theorem set3_upd (S : Nat → Prop) (W : World) (b o : Nat) (x0 x1 x2 : Value) (h : S b) : Upd S W (set3 W b o x0 x1 x2) :=
 (((Upd.refl S W).setCell _ _ (fun _ => h)).setCell _ _ (fun _ => h)).setCell _ _ (fun _ => h)
set_option maxHeartbeats 800000 in
theorem rsetHead_not (h : RA W A g c M D nodes root L) (id lv ri : Int) (t : Tx) (hne : heE L id ≠ 0) :
  Calls Tryz.prog 102 #[.pointer (some ⟨A, 0, none⟩), .int .i64 id, .agg #[.int .i64 lv, t.v, .int .i64 ri]] W fun e w' => e = .returned (.int .i64 (heE L id)) ∧ Below W.heap.size W w' := by
 obtain ⟨ha, hc, hs⟩ := t
 simp only [Tx.v]
 obtain ⟨w0, hw0⟩ : ∃ w0, w0 = W.alloc (.cells #[.int .i64 lv, .slice ha hs.length hc, .int .i64 ri] 30) := ⟨_, rfl⟩
 have b0 : Below W.heap.size W w0 := by rw [hw0]; exact (Below.refl _ _).alloc (Nat.le_refl _) _
 have HO := hide (rheld_any (h.below b0) id)
 have B0 := hide b0
 have HW := hide hw0
 clear h b0 hw0
 generalize heE L id = er at *
 generalize hs.length = lh at *
 go_enter Tryz.func102, Tryz.ntmps102
 go_wp2_with fail
 rw [← HW.out]
 refine keep HO.out ?_
 go_wp2_with fail
 go_ret
 exact ⟨rfl, B0.out⟩
set_option maxHeartbeats 800000 in
theorem rsetBody_not (h : RA W A g c M D nodes root L) (id : Int) (k v : TL) (ci : IL) (hne : heE L id ≠ 0) :
  Calls Tryz.prog 103 #[.pointer (some ⟨A, 0, none⟩), .int .i64 id, .agg #[k.v, v.v, ci.v]] W fun e w' => e = .returned (.int .i64 (heE L id)) ∧ Below W.heap.size W w' := by
 obtain ⟨ka, kc, K⟩ := k
 obtain ⟨va, vc, V⟩ := v
 obtain ⟨ca, cc, C⟩ := ci
 simp only [TL.v, IL.v]
 obtain ⟨w0, hw0⟩ : ∃ w0, w0 = W.alloc (.cells #[.slice ka K.length kc, .slice va V.length vc, .slice ca C.length cc] 34) := ⟨_, rfl⟩
 have b0 : Below W.heap.size W w0 := by rw [hw0]; exact (Below.refl _ _).alloc (Nat.le_refl _) _
 have HO := hide (rheld_any (h.below b0) id)
 have B0 := hide b0
 have HW := hide hw0
 clear h b0 hw0
 generalize heE L id = er at *
 generalize K.length = lk at *
 generalize V.length = lw at *
 generalize C.length = lc at *
 go_enter Tryz.func103, Tryz.ntmps103
 go_wp2_with fail
 rw [← HW.out]
 refine keep HO.out ?_
 go_wp2_with fail
 go_ret
 exact ⟨rfl, B0.out⟩
theorem RA.drew_ (h : RA W A g c M D nodes root L) : RA W.drew A g c M D nodes root L :=
 h.upd (S := Noth) ⟨rfl, rfl, rfl, Nat.le_refl _, fun _ _ _ => rfl⟩ (fun _ _ e => e)
theorem RA.set3r {w3 : World} {D' : Nat → Prop} (h : RA w3 A g c M D nodes root L) (i : Nat) (hi : i < L.length) (o : Nat) (ho : o + 3 ≤ 7) (x0 x1 x2 : Value) (s1 s2 s : RS) (e1 : s1.cells = (L[i].cells).set o x0) (e2 : s2.cells = s1.cells.set (o + 1) x1) (e3 : s.cells = s2.cells.set (o + 2) x2)
  (hD : ∀ k, D k → D' k) (hlt : ∀ k, D' k → k < w3.heap.size) (hdj : ∀ k, M k → ¬ D' k) (hok : s.Ok w3 D') : RA (set3 w3 g (i * 7 + o) x0 x1 x2) A g c M D' nodes root (L.set i s) := by
 have hU : Upd (fun k => k = g) w3 (set3 w3 g (i * 7 + o) x0 x1 x2) := set3_upd _ _ _ _ _ _ _ rfl
 refine h.put s hU ?_ hD (fun k hk => Nat.lt_of_lt_of_le (hlt k hk) hU.size) hdj ⟨hok.n.upd hok.d hU (fun k hk e => hdj g h.mg (by rw [← e]; exact hk)), hok.d, hok.w⟩
 have r1 := row7_set h.row i hi o (by omega) x0 s1 e1
 have r2 := row7_set (L := L.set i s1) r1 i (by rw [List.length_set]; exact hi) (o + 1) (by omega) x1 s2 (by rw [List.getElem_set_self]; exact e2)
 rw [List.set_set] at r2
 have r3 := row7_set (L := L.set i s2) r2 i (by rw [List.length_set]; exact hi) (o + 2) (by omega) x2 s (by rw [List.getElem_set_self]; exact e3)
 rw [List.set_set] at r3
 exact r3
set_option maxRecDepth 100000 in
set_option maxHeartbeats 3200000 in
theorem rsetHead_any (h : RA W A g c M D nodes root L) (i : Nat) (hi : i < L.length) (he : L[i].w % 2 = 1) (lv ri : Int) (t : Tx) (ht : t.Ok W) :
  Calls Tryz.prog 102 #[.pointer (some ⟨A, 0, none⟩), .int .i64 ((i : Int) + 1), .agg #[.int .i64 lv, t.v, .int .i64 ri]] W (RSetPost W A g c M D nodes root L i L[i].w (L[i].n.p.setH lv t.s ri)) := by
 obtain ⟨w0, hw0⟩ : ∃ w0, w0 = W.alloc (.cells #[.int .i64 lv, t.v, .int .i64 ri] 30) := ⟨_, rfl⟩
 have b0 : Below W.heap.size W w0 := by rw [hw0]; exact (Below.refl _ _).alloc (Nat.le_refl _) _
 have g0 : w0.heap[W.heap.size]? = some (.cells #[.int .i64 lv, t.v, .int .i64 ri] 30 (0, 0)) := by rw [hw0]; exact heap_alloc_new W _
 have z0 : w0.heap.size = W.heap.size + 1 := by rw [hw0]; simp
 have HO := hide (rheld_any (h.below b0) ((i : Int) + 1))
 rw [heE_at L i hi, if_neg (by omega)] at HO
 have HCL := hide (rclone_any ⟨lv, t, ri, ⟨none, 0, []⟩, ⟨none, 0, []⟩, ⟨none, 0, []⟩⟩ w0 ⟨ht.below b0, TL.nil_ok _, TL.nil_ok _, IL.nil_ok _, Nat.zero_le _, Nat.zero_le _, Nat.zero_le _⟩)
 have HP := hide h
 have HI := hide hi
 have hn := h.n_le
 -- the end
 have HFIN : Hid (∀ w3 na nc, Below w0.heap.size w0 w3 → OwnB w3 w0.heap.size 5 (.slice na t.s.length nc) t.s → B8 t.s ∧ t.s.length ≤ 140737488351232 → RSetPost W A g c M D nodes root L i L[i].w (L[i].n.p.setH lv t.s ri) (.returned (.int .i64 0)) (set3 w3 g (i * 7 + 1) (.int .i64 lv) (.slice na t.s.length nc) (.int .i64 ri)).drew) := by
  intro w3 na nc hb hv h8
  have bel := b0.trans (hb.mono b0.size)
  have P3 := h.below bel
  have ho := P3.sl L[i] (List.getElem_mem hi)
  have hv' : OwnB w3 w0.heap.size 5 (⟨na, nc, t.s⟩ : Tx).v t.s := hv
  have hin := ownB_in (x := ⟨na, nc, t.s⟩) hv'
  refine ⟨fun k => D k ∨ (w0.heap.size ≤ k ∧ k < w3.heap.size), ⟨lv, ⟨na, nc, t.s⟩, ri, L[i].n.ks, L[i].n.vs, L[i].n.cs⟩, rfl, ?_, rfl, ?_, ?_⟩
  ·refine RA.drew_ (P3.set3r i hi 1 (by omega) _ _ _ ⟨L[i].w, ⟨lv, L[i].n.hi, L[i].n.ri, L[i].n.ks, L[i].n.vs, L[i].n.cs⟩⟩ ⟨L[i].w, ⟨lv, ⟨na, nc, t.s⟩, L[i].n.ri, L[i].n.ks, L[i].n.vs, L[i].n.cs⟩⟩ ⟨L[i].w, ⟨lv, ⟨na, nc, t.s⟩, ri, L[i].n.ks, L[i].n.vs, L[i].n.cs⟩⟩ rfl rfl rfl (fun k hk => .inl hk) ?_ ?_ ⟨⟨ownB_ok (x := ⟨na, nc, t.s⟩) hv' h8.1 h8.2, ho.n.k, ho.n.v, ho.n.c, ho.n.kz, ho.n.vz, ho.n.cz⟩, ?_, ho.w⟩)
   ·intro k hk
    rcases hk with hk | hk
    ·exact P3.lt k (.inr hk)
    ·exact hk.2
   ·intro k hk hd
    rcases hd with hd | hd
    ·exact P3.dj k hk hd
    ·have := h.lt k (.inl hk); omega
   ·exact ⟨fun x e _ => .inr (hin x e), fun x e l => .inl (ho.d.k x e l), fun y hy x e l => .inl (ho.d.ke y hy x e l), fun x e l => .inl (ho.d.v x e l), fun y hy x e l => .inl (ho.d.ve y hy x e l), fun x e l => .inl (ho.d.c x e l)⟩
  ·intro k hk
   rcases hk with hk | hk
   ·exact .inl hk
   ·right; omega
  ·exact ((Upd.of_below bel M).trans (set3_upd _ _ _ _ _ _ _ h.mg)).drew
 have HB8 : Hid (B8 t.s ∧ t.s.length ≤ 140737488351232) := ⟨ht.b8, ht.z⟩
 have HR : Hid (∀ W', Below w0.heap.size w0 W' → RA W' A g c M D nodes root L) := fun W' hb => (h.below b0).below hb
 generalize RSetPost W A g c M D nodes root L i L[i].w (L[i].n.p.setH lv t.s ri) = PO at *
 obtain ⟨ha, hc, hs⟩ := t
 simp only [Nd.v, Tx.v, TL.v, IL.v, List.length_nil] at HCL HFIN g0 hw0 HB8 ⊢
 obtain ⟨lh, hlh⟩ : ∃ lh, hs.length = lh := ⟨_, rfl⟩
 rw [hlh] at HCL g0 hw0 ⊢
 have HLH := hide hlh
 clear h he ht hlh
 have G0 := hide g0
 obtain ⟨id, hid⟩ : ∃ id, id = (i : Int) + 1 := ⟨_, rfl⟩
 rw [← hid] at HO ⊢
 obtain ⟨n, hln⟩ : ∃ n, L.length = n := ⟨_, rfl⟩
 rw [hln] at hn hi
 have HLN := hide hln
 have j4 : (i : Int) < (n : Int) := by omega
 have j3 : id - 1 = (i : Int) := by omega
 have j5 : id ≤ 65536 := by omega
 have j6 : 1 ≤ id := by omega
 obtain ⟨t0, t1, t2⟩ := Tri.of g0
 have B0 := hide b0
 have HW := hide hw0
 have Z0 := hide z0
 clear g0 b0 hw0 z0 hid hln
 go_enter Tryz.func102, Tryz.ntmps102
 go_wp2_with fail
 rw [← HW.out]
 refine keep HO.out ?_
 go_wp2_with fail
 refine HCL.out.mono ?_
 rintro e w2 ⟨⟨lv', ⟨na, nc, ns⟩, ri', ⟨kn, kd, K'⟩, ⟨vn, vd, V'⟩, ⟨cn, cd, C'⟩⟩, N1, N2, rfl, hp, hown, hb2, _, _, _, _, _⟩
 simp only [Nd.p, NP.mk.injEq] at hp
 obtain ⟨rfl, rfl, rfl, _, _, _⟩ := hp
 have hv2 : OwnB w2 w0.heap.size 5 (.slice na lh nc) ns := by have := hown.h; simp only [Tx.v, HLH.out] at this; exact this
 have V2 := hide hv2
 have B2 := hide hb2
 simp only [Nd.v, Tx.v, TL.v, IL.v, HLH.out]
 clear hv2 hown hb2 HCL t0 t1 t2
 generalize K'.length = lk' at *
 generalize V'.length = lw' at *
 generalize C'.length = lc' at *
 obtain ⟨w3, hw3⟩ : ∃ w3, w3 = w2.alloc (.cells #[.int .i64 lv', .slice na lh nc, .int .i64 ri', .slice kn lk' kd, .slice vn lw' vd, .slice cn lc' cd] 36) := ⟨_, rfl⟩
 have b3 : Below w2.heap.size w2 w3 := by rw [hw3]; exact (Below.refl _ _).alloc (Nat.le_refl _) _
 have b03 := B2.out.trans (b3.mono B2.out.size)
 have g3 : w3.heap[w2.heap.size]? = some (.cells #[.int .i64 lv', .slice na lh nc, .int .i64 ri', .slice kn lk' kd, .slice vn lw' vd, .slice cn lc' cd] 36 (0, 0)) := by rw [hw3]; exact heap_alloc_new w2 _
 obtain ⟨y0, y1, y2, _, _, _⟩ := Six.of g3
 have P3 := HR.out w3 b03
 obtain ⟨_, c1, _⟩ := P3.cells
 rw [HLN.out] at c1
 have F3 := fun j => P3.frozen j
 obtain ⟨k1, k2, k3, _, _, _⟩ := P3.ncells i HI.out
 have HF := hide (HFIN.out w3 na nc b03 (by rw [HLH.out]; exact V2.out.below b3) HB8.out)
 rw [HLH.out] at HF
 generalize L[i].n = nd at *
 have HW3 := hide hw3
 clear hw3 b3 b03 P3 g3 HFIN HR
 go_wp2_with fail
 rw [← HW3.out]
 have j7 : IntKind.i64.wrap (id - 1) = (i : Int) := by rw [IntKind.wrap_i64]; omega
 have j8 : (0 : Int) ≤ (i : Int) := by omega
 have j9 : (i : Int) ≤ (n : Int) := by omega
 go_region
 go_wp2_with fail
 exact HF.out
set_option maxRecDepth 100000 in
set_option maxHeartbeats 3200000 in
theorem rsetBody_any (h : RA W A g c M D nodes root L) (i : Nat) (hi : i < L.length) (he : L[i].w % 2 = 1) (k v : TL) (ci : IL) (hk : k.Ok W) (hv : v.Ok W) (hc : ci.Ok W) (kz : k.L.length * 24 ≤ 140737488352000) (vz : v.L.length * 24 ≤ 140737488352000) (cz : ci.s.length * 8 ≤ 140737488352000) :
  Calls Tryz.prog 103 #[.pointer (some ⟨A, 0, none⟩), .int .i64 ((i : Int) + 1), .agg #[k.v, v.v, ci.v]] W (RSetPost W A g c M D nodes root L i L[i].w (L[i].n.p.setB k.p v.p ci.s)) := by
 obtain ⟨w0, hw0⟩ : ∃ w0, w0 = W.alloc (.cells #[k.v, v.v, ci.v] 34) := ⟨_, rfl⟩
 have b0 : Below W.heap.size W w0 := by rw [hw0]; exact (Below.refl _ _).alloc (Nat.le_refl _) _
 have g0 : w0.heap[W.heap.size]? = some (.cells #[k.v, v.v, ci.v] 34 (0, 0)) := by rw [hw0]; exact heap_alloc_new W _
 have z0 : w0.heap.size = W.heap.size + 1 := by rw [hw0]; simp
 have HO := hide (rheld_any (h.below b0) ((i : Int) + 1))
 rw [heE_at L i hi, if_neg (by omega)] at HO
 have HCL := hide (rclone_any ⟨0, ⟨none, 0, []⟩, 0, k, v, ci⟩ w0 ⟨Tx.nil_ok _, hk.below b0, hv.below b0, hc.below b0, kz, vz, cz⟩)
 have HP := hide h
 have HI := hide hi
 have hn := h.n_le
 -- the end
 have HFIN : Hid (∀ w3 kn kd K' vn vd V' cn cd, Below w0.heap.size w0 w3 → K'.map (·.s) = k.L.map (·.s) → V'.map (·.s) = v.L.map (·.s) → K'.length = k.L.length → V'.length = v.L.length → (⟨kn, kd, K'⟩ : TL).Own w3 w0.heap.size → (⟨vn, vd, V'⟩ : TL).Own w3 w0.heap.size → w3.ownsRow w0.heap.size 3 1 (.slice cn ci.s.length cd) ci.s.length (ci.s.map (Value.int .i64)) →
   RSetPost W A g c M D nodes root L i L[i].w (L[i].n.p.setB k.p v.p ci.s) (.returned (.int .i64 0)) (set3 w3 g (i * 7 + 4) (.slice kn k.L.length kd) (.slice vn v.L.length vd) (.slice cn ci.s.length cd)).drew) := by
  intro w3 kn kd K' vn vd V' cn cd hb p1 p2 l1 l2 q1 q2 q3
  have bel := b0.trans (hb.mono b0.size)
  have P3 := h.below bel
  have ho := P3.sl L[i] (List.getElem_mem hi)
  have e1 : (⟨kn, kd, K'⟩ : TL).v = .slice kn k.L.length kd := by simp only [TL.v, l1]
  have e2 : (⟨vn, vd, V'⟩ : TL).v = .slice vn v.L.length vd := by simp only [TL.v, l2]
  obtain ⟨m, hm⟩ : ∃ m : Nd, m = ⟨L[i].n.lv, L[i].n.hi, L[i].n.ri, ⟨kn, kd, K'⟩, ⟨vn, vd, V'⟩, ⟨cn, cd, ci.s⟩⟩ := ⟨_, rfl⟩
  refine ⟨fun k => D k ∨ (w0.heap.size ≤ k ∧ k < w3.heap.size), m, rfl, ?_, ?_, ?_, ?_⟩
  ·rw [hm]
   refine RA.drew_ (P3.set3r i hi 4 (by omega) _ _ _ ⟨L[i].w, ⟨L[i].n.lv, L[i].n.hi, L[i].n.ri, ⟨kn, kd, K'⟩, L[i].n.vs, L[i].n.cs⟩⟩ ⟨L[i].w, ⟨L[i].n.lv, L[i].n.hi, L[i].n.ri, ⟨kn, kd, K'⟩, ⟨vn, vd, V'⟩, L[i].n.cs⟩⟩ ⟨L[i].w, ⟨L[i].n.lv, L[i].n.hi, L[i].n.ri, ⟨kn, kd, K'⟩, ⟨vn, vd, V'⟩, ⟨cn, cd, ci.s⟩⟩⟩ (by rw [← e1]; rfl) (by rw [← e2]; rfl) rfl (fun k hk => .inl hk) ?_ ?_ ⟨⟨ho.n.h, q1.ok, q2.ok, il_of_owns (t := ⟨cn, cd, ci.s⟩) q3, ?_, ?_, cz⟩, ?_, ho.w⟩)
   ·intro k hk
    rcases hk with hk | hk
    ·exact P3.lt k (.inr hk)
    ·exact hk.2
   ·intro k hk hd
    rcases hd with hd | hd
    ·exact P3.dj k hk hd
    ·have := h.lt k (.inl hk); omega
   ·simp only [l1]; exact kz
   ·simp only [l2]; exact vz
   ·exact ⟨fun x e l => .inl (ho.d.h x e l), fun x e _ => .inr (owns_in q1.row x e), fun y hy x e _ => .inr (ownB_in (q1.each y hy) x e), fun x e _ => .inr (owns_in q2.row x e), fun y hy x e _ => .inr (ownB_in (q2.each y hy) x e), fun x e _ => .inr (owns_in q3 x e)⟩
  ·rw [hm]
   simp only [Nd.p, NP.setB, TL.p, p1, p2]
  ·intro k hk
   rcases hk with hk | hk
   ·exact .inl hk
   ·right; omega
  ·exact ((Upd.of_below bel M).trans (set3_upd _ _ _ _ _ _ _ h.mg)).drew
 have HR : Hid (∀ W', Below w0.heap.size w0 W' → RA W' A g c M D nodes root L) := fun W' hb => (h.below b0).below hb
 generalize RSetPost W A g c M D nodes root L i L[i].w (L[i].n.p.setB k.p v.p ci.s) = PO at *
 obtain ⟨ka, kc, K⟩ := k
 obtain ⟨va, vc, V⟩ := v
 obtain ⟨ca, cc, C⟩ := ci
 simp only [Nd.v, Tx.v, TL.v, IL.v, List.length_nil] at HCL HFIN g0 hw0 ⊢
 obtain ⟨lk, hlk⟩ : ∃ lk, K.length = lk := ⟨_, rfl⟩
 obtain ⟨lw, hlw⟩ : ∃ lw, V.length = lw := ⟨_, rfl⟩
 obtain ⟨lc, hlc⟩ : ∃ lc, C.length = lc := ⟨_, rfl⟩
 rw [hlk, hlw, hlc] at HCL g0 hw0 ⊢
 have HLK := hide hlk
 have HLW := hide hlw
 have HLC := hide hlc
 clear h he hk hv hc kz vz cz hlk hlw hlc
 have G0 := hide g0
 obtain ⟨id, hid⟩ : ∃ id, id = (i : Int) + 1 := ⟨_, rfl⟩
 rw [← hid] at HO ⊢
 obtain ⟨n, hln⟩ : ∃ n, L.length = n := ⟨_, rfl⟩
 rw [hln] at hn hi
 have HLN := hide hln
 have j4 : (i : Int) < (n : Int) := by omega
 have j3 : id - 1 = (i : Int) := by omega
 have j5 : id ≤ 65536 := by omega
 have j6 : 1 ≤ id := by omega
 obtain ⟨t0, t1, t2⟩ := Tri.of g0
 have B0 := hide b0
 have HW := hide hw0
 have Z0 := hide z0
 clear g0 b0 hw0 z0 hid hln
 go_enter Tryz.func103, Tryz.ntmps103
 go_wp2_with fail
 rw [← HW.out]
 refine keep HO.out ?_
 go_wp2_with fail
 refine HCL.out.mono ?_
 rintro e w2 ⟨⟨lv', ⟨na, nc, ns⟩, ri', ⟨kn, kd, K'⟩, ⟨vn, vd, V'⟩, ⟨cn, cd, C'⟩⟩, N1, N2, rfl, hp, hown, hb2, _, _, _, _, _⟩
 simp only [Nd.p, NP.mk.injEq] at hp
 obtain ⟨rfl, rfl, rfl, hp1, hp2, rfl⟩ := hp
 have l1 : K'.length = lk := by have := congrArg List.length hp1; simp only [TL.p, List.length_map] at this; rw [this]; exact HLK.out
 have l2 : V'.length = lw := by have := congrArg List.length hp2; simp only [TL.p, List.length_map] at this; rw [this]; exact HLW.out
 have P1 : Hid (K'.map (·.s) = K.map (·.s) ∧ V'.map (·.s) = V.map (·.s) ∧ K'.length = lk ∧ V'.length = lw) := ⟨hp1, hp2, l1, l2⟩
 have hv2 := And.intro hown.k (And.intro hown.v hown.c)
 simp only [IL.v, HLC.out] at hv2
 have V2 := hide hv2
 have B2 := hide hb2
 simp only [Nd.v, Tx.v, TL.v, IL.v, l1, l2, HLC.out, List.length_nil]
 clear hv2 hown hb2 HCL hp1 hp2 l1 l2 t0 t1 t2
 obtain ⟨w3, hw3⟩ : ∃ w3, w3 = w2.alloc (.cells #[.int .i64 0, .slice na 0 nc, .int .i64 0, .slice kn lk kd, .slice vn lw vd, .slice cn lc cd] 36) := ⟨_, rfl⟩
 have b3 : Below w2.heap.size w2 w3 := by rw [hw3]; exact (Below.refl _ _).alloc (Nat.le_refl _) _
 have b03 := B2.out.trans (b3.mono B2.out.size)
 have g3 : w3.heap[w2.heap.size]? = some (.cells #[.int .i64 0, .slice na 0 nc, .int .i64 0, .slice kn lk kd, .slice vn lw vd, .slice cn lc cd] 36 (0, 0)) := by rw [hw3]; exact heap_alloc_new w2 _
 obtain ⟨y3, y4, y5⟩ := (Six.of g3).2.2.2
 have P3 := HR.out w3 b03
 obtain ⟨_, c1, _⟩ := P3.cells
 rw [HLN.out] at c1
 have F3 := fun j => P3.frozen j
 obtain ⟨k1, k2, k3⟩ := (P3.ncells i HI.out).2.2.2
 obtain ⟨p1, p2, l1, l2⟩ := P1.out
 have HF := hide (HFIN.out w3 kn kd K' vn vd V' cn cd b03 p1 p2 (l1.trans HLK.out.symm) (l2.trans HLW.out.symm) (V2.out.1.below b3) (V2.out.2.1.below b3) (by rw [HLC.out]; exact owns_below V2.out.2.2 b3))
 rw [HLK.out, HLW.out, HLC.out] at HF
 clear p1 p2 l1 l2
 generalize L[i].n = nd at *
 have HW3 := hide hw3
 clear hw3 b3 b03 P3 g3 HFIN HR
 go_wp2_with fail
 rw [← HW3.out]
 have j7 : IntKind.i64.wrap (id - 1) = (i : Int) := by rw [IntKind.wrap_i64]; omega
 have j8 : (0 : Int) ≤ (i : Int) := by omega
 have j9 : (i : Int) ≤ (n : Int) := by omega
 go_region
 go_wp2_with fail
 exact HF.out
end
end Go.Proofs.YtpljbgcofmlhbaaGreat
namespace Go.Proofs.YtpljbgcofmlhbaaGreat
open Go.RowKit
set_option maxRecDepth 100000
structure AS where
 nodes : Int
 root : Int
 sl : List (Nat × NP)
def AS.inn (s : AS) (id : Int) : Prop := 1 ≤ id ∧ id ≤ (s.sl.length : Nat)
instance (s : AS) (id : Int) : Decidable (s.inn id) := by unfold AS.inn; exact inferInstance
def AS.w (s : AS) (id : Int) : Nat := (s.sl.getD (id - 1).toNat (0, NP.zero)).1
def AS.n (s : AS) (id : Int) : NP := (s.sl.getD (id - 1).toNat (0, NP.zero)).2
def AS.setw (s : AS) (id : Int) (x : Nat) : AS := ⟨s.nodes, s.root, s.sl.set (id - 1).toNat (x, s.n id)⟩
def AS.setn (s : AS) (id : Int) (p : NP) : AS := ⟨s.nodes, s.root, s.sl.set (id - 1).toNat (s.w id, p)⟩
def AS.wordE (s : AS) (id : Int) : Int := if s.inn id then 0 else 101
def AS.wordW (s : AS) (id : Int) : Nat := if s.inn id then s.w id else 0
def AS.lockB (s : AS) (id : Int) (x : Nat) : Bool := decide (s.inn id ∧ s.w id = x ∧ x % 2 = 0)
def AS.lockS (s : AS) (id : Int) (x : Nat) : AS := if s.inn id ∧ s.w id = x ∧ x % 2 = 0 then s.setw id (x + 1) else s
def AS.unlE (s : AS) (id : Int) : Int := if s.inn id then (if s.w id % 2 = 0 then 102 else 0) else 101
def AS.unlS (s : AS) (id : Int) (ch : Bool) : AS := if s.unlE id = 0 then s.setw id (freeW (s.w id) ch) else s
def AS.hedS (s : AS) (id : Int) (lv : Int) (hi : List Int) (ri : Int) : AS := if s.unlE id = 0 then s.setn id ((s.n id).setH lv hi ri) else s
def AS.bodS (s : AS) (id : Int) (ks vs : List (List Int)) (cs : List Int) : AS := if s.unlE id = 0 then s.setn id ((s.n id).setB ks vs cs) else s
def AS.groB (s : AS) (old id : Int) : Bool := decide (s.inn id ∧ s.root = old)
def AS.groS (s : AS) (old id : Int) : AS := if s.inn id ∧ s.root = old then ⟨s.nodes, id, s.sl⟩ else s
def AS.allI (s : AS) : Int := if (s.sl.length : Int) < s.nodes then (s.sl.length : Int) + 1 else 0
def AS.allE (s : AS) : Int := if (s.sl.length : Int) < s.nodes then 0 else 2
def AS.allS (s : AS) : AS := if (s.sl.length : Int) < s.nodes then ⟨s.nodes, s.root, s.sl ++ [(1, NP.zero)]⟩ else s
theorem AS.idx {s : AS} {id : Int} (h : s.inn id) : ∃ i : Nat, i < s.sl.length ∧ id = (i : Int) + 1 ∧ (id - 1).toNat = i :=
 ⟨(id - 1).toNat, by unfold AS.inn at h; omega, by unfold AS.inn at h; omega, rfl⟩
def PX (W : World) (A : Nat) (F : Nat → Prop) (s : AS) : Prop := ∃ M D L, PA W A M D s.nodes s.root L ∧ ndsOf L = s.sl ∧ (∀ k, M k ∨ D k → F k) ∧ (∀ k, F k → k < W.heap.size)
def RX (W : World) (A : Nat) (F : Nat → Prop) (s : AS) : Prop := ∃ g c M D L, RA W A g c M D s.nodes s.root L ∧ ndsR L = s.sl ∧ (∀ k, M k ∨ D k → F k) ∧ (∀ k, F k → k < W.heap.size)
structure Stp (F F' : Nat → Prop) (W W' : World) : Prop where
 f : ∀ k, F' k → F k ∨ W.heap.size ≤ k
 u : Upd F W W'
theorem Stp.refl (F : Nat → Prop) (W : World) : Stp F F W W := ⟨fun _ h => .inl h, Upd.refl _ _⟩
theorem PX.upd {W W' : World} {A : Nat} {F S : Nat → Prop} {s : AS} (h : PX W A F s) (hb : Upd S W W') (hs : ∀ k, F k → ¬ S k) : PX W' A F s := by
 obtain ⟨M, D, L, h1, h2, h3, h4⟩ := h
 exact ⟨M, D, L, h1.upd hb (fun k hk => hs k (h3 k hk)), h2, h3, fun k hk => Nat.lt_of_lt_of_le (h4 k hk) hb.size⟩
theorem RX.upd {W W' : World} {A : Nat} {F S : Nat → Prop} {s : AS} (h : RX W A F s) (hb : Upd S W W') (hs : ∀ k, F k → ¬ S k) : RX W' A F s := by
 obtain ⟨g, c, M, D, L, h1, h2, h3, h4⟩ := h
 exact ⟨g, c, M, D, L, h1.upd hb (fun k hk => hs k (h3 k hk)), h2, h3, fun k hk => Nat.lt_of_lt_of_le (h4 k hk) hb.size⟩
theorem PX.lt {W : World} {A : Nat} {F : Nat → Prop} {s : AS} (h : PX W A F s) : ∀ k, F k → k < W.heap.size := by obtain ⟨M, D, L, _, _, _, h4⟩ := h; exact h4
theorem RX.lt {W : World} {A : Nat} {F : Nat → Prop} {s : AS} (h : RX W A F s) : ∀ k, F k → k < W.heap.size := by obtain ⟨g, c, M, D, L, _, _, _, h4⟩ := h; exact h4
def PNext (W : World) (A : Nat) (F : Nat → Prop) (s' : AS) (W' : World) : Prop := ∃ F', PX W' A F' s' ∧ Stp F F' W W'
def RNext (W : World) (A : Nat) (F : Nat → Prop) (s' : AS) (W' : World) : Prop := ∃ F', RX W' A F' s' ∧ Stp F F' W W'
theorem PX.still {W W' : World} {A : Nat} {F : Nat → Prop} {s : AS} (h : PX W A F s) (hb : Below W.heap.size W W') : PNext W A F s W' :=
 ⟨F, h.upd (S := Noth) (Upd.of_below hb _) (fun _ _ e => e), fun _ h => .inl h, Upd.of_below hb _⟩
theorem RX.still {W W' : World} {A : Nat} {F : Nat → Prop} {s : AS} (h : RX W A F s) (hb : Below W.heap.size W W') : RNext W A F s W' :=
 ⟨F, h.upd (S := Noth) (Upd.of_below hb _) (fun _ _ e => e), fun _ h => .inl h, Upd.of_below hb _⟩
theorem pnext_of {W W' : World} {A : Nat} {F M D M' D' : Nat → Prop} {s' : AS} {L' : List Sl} (hF : ∀ k, M k ∨ D k → F k) (hlt : ∀ k, F k → k < W.heap.size) (h : PA W' A M' D' s'.nodes s'.root L') (he : ndsOf L' = s'.sl) (hm : ∀ k, M' k → M k ∨ W.heap.size ≤ k) (hd : ∀ k, D' k → D k ∨ W.heap.size ≤ k) (hu : Upd M W W') : PNext W A F s' W' := by
 refine ⟨fun k => F k ∨ (W.heap.size ≤ k ∧ k < W'.heap.size), ⟨M', D', L', h, he, ?_, ?_⟩, ⟨?_, hu.mono (fun k _ hk => hF k (.inl hk))⟩⟩
 ·intro k hk
  have hl := h.lt k hk
  rcases hk with hk | hk
  ·rcases hm k hk with h1 | h1
   ·exact .inl (hF k (.inl h1))
   ·exact .inr ⟨h1, hl⟩
  ·rcases hd k hk with h1 | h1
   ·exact .inl (hF k (.inr h1))
   ·exact .inr ⟨h1, hl⟩
 ·intro k hk
  rcases hk with hk | hk
  ·exact Nat.lt_of_lt_of_le (hlt k hk) hu.size
  ·exact hk.2
 ·intro k hk
  rcases hk with hk | hk
  ·exact .inl hk
  ·exact .inr hk.1
theorem rnext_of {W W' : World} {A g c : Nat} {F M D M' D' : Nat → Prop} {s' : AS} {L' : List RS} (hF : ∀ k, M k ∨ D k → F k) (hlt : ∀ k, F k → k < W.heap.size) (h : RA W' A g c M' D' s'.nodes s'.root L') (he : ndsR L' = s'.sl) (hm : ∀ k, M' k → M k ∨ W.heap.size ≤ k) (hd : ∀ k, D' k → D k ∨ W.heap.size ≤ k) (hu : Upd M W W') : RNext W A F s' W' := by
 refine ⟨fun k => F k ∨ (W.heap.size ≤ k ∧ k < W'.heap.size), ⟨g, c, M', D', L', h, he, ?_, ?_⟩, ⟨?_, hu.mono (fun k _ hk => hF k (.inl hk))⟩⟩
 ·intro k hk
  have hl := h.lt k hk
  rcases hk with hk | hk
  ·rcases hm k hk with h1 | h1
   ·exact .inl (hF k (.inl h1))
   ·exact .inr ⟨h1, hl⟩
  ·rcases hd k hk with h1 | h1
   ·exact .inl (hF k (.inr h1))
   ·exact .inr ⟨h1, hl⟩
 ·intro k hk
  rcases hk with hk | hk
  ·exact Nat.lt_of_lt_of_le (hlt k hk) hu.size
  ·exact hk.2
 ·intro k hk
  rcases hk with hk | hk
  ·exact .inl hk
  ·exact .inr hk.1
theorem ndsOf_at {L : List Sl} {s : AS} (h : ndsOf L = s.sl) {i : Nat} (hi : i < L.length) {id : Int} (hid : id = (i : Int) + 1) : s.w id = L[i].w ∧ s.n id = L[i].n.p := by
 have : s.sl.getD (id - 1).toNat (0, NP.zero) = (L[i].w, L[i].n.p) := by
  rw [← h, show (id - 1).toNat = i by omega]
  simp [ndsOf, hi]
 unfold AS.w AS.n
 rw [this]
 exact ⟨rfl, rfl⟩
theorem ndsR_at {L : List RS} {s : AS} (h : ndsR L = s.sl) {i : Nat} (hi : i < L.length) {id : Int} (hid : id = (i : Int) + 1) : s.w id = L[i].w ∧ s.n id = L[i].n.p := by
 have : s.sl.getD (id - 1).toNat (0, NP.zero) = (L[i].w, L[i].n.p) := by
  rw [← h, show (id - 1).toNat = i by omega]
  simp [ndsR, hi]
 unfold AS.w AS.n
 rw [this]
 exact ⟨rfl, rfl⟩
theorem ndsOf_set {L : List Sl} {s : AS} (h : ndsOf L = s.sl) {i : Nat} {id : Int} (hid : id = (i : Int) + 1) (t : Sl) : ndsOf (L.set i t) = s.sl.set (id - 1).toNat (t.w, t.n.p) := by
 rw [← h, show (id - 1).toNat = i by omega]
 simp [ndsOf, List.map_set]
theorem ndsR_set {L : List RS} {s : AS} (h : ndsR L = s.sl) {i : Nat} {id : Int} (hid : id = (i : Int) + 1) (t : RS) : ndsR (L.set i t) = s.sl.set (id - 1).toNat (t.w, t.n.p) := by
 rw [← h, show (id - 1).toNat = i by omega]
 simp [ndsR, List.map_set]
theorem ndsOf_lenS {L : List Sl} {s : AS} (h : ndsOf L = s.sl) : L.length = s.sl.length := by rw [← h, ndsOf_len]
theorem ndsR_lenS {L : List RS} {s : AS} (h : ndsR L = s.sl) : L.length = s.sl.length := by rw [← h, ndsR_len]
section
variable {W : World} {A : Nat} {F : Nat → Prop} {s : AS}
/-! ### Used, Root, Left -/
theorem px_used (h : PX W A F s) : Calls Tryz.prog 42 #[.pointer (some ⟨A, 0, none⟩)] W fun e w' => e = .returned (.int .i64 (s.sl.length : Nat)) ∧ w' = W := by
 obtain ⟨M, D, L, h1, h2, _⟩ := h
 rw [← ndsOf_lenS h2]
 exact used_any h1
theorem rx_used (h : RX W A F s) : Calls Tryz.prog 52 #[.pointer (some ⟨A, 0, none⟩)] W fun e w' => e = .returned (.int .i64 (s.sl.length : Nat)) ∧ w' = W := by
 obtain ⟨g, c, M, D, L, h1, h2, _⟩ := h
 rw [← ndsR_lenS h2]
 exact rused_any h1
theorem px_root (h : PX W A F s) : Calls Tryz.prog 71 #[.pointer (some ⟨A, 0, none⟩)] W fun e w' => e = .returned (.int .i64 s.root) ∧ w' = W := by
 obtain ⟨M, D, L, h1, _⟩ := h
 exact root_any h1
theorem rx_root (h : RX W A F s) : Calls Tryz.prog 59 #[.pointer (some ⟨A, 0, none⟩)] W fun e w' => e = .returned (.int .i64 s.root) ∧ w' = W := by
 obtain ⟨g, c, M, D, L, h1, _⟩ := h
 exact rroot_any h1
theorem px_left (h : PX W A F s) : Calls Tryz.prog 37 #[.pointer (some ⟨A, 0, none⟩)] W fun e w' => e = .returned (.int .i64 (s.nodes - (s.sl.length : Nat))) ∧ ∃ k, w' = W.drewN k := by
 obtain ⟨M, D, L, h1, h2, _⟩ := h
 rw [← ndsOf_lenS h2]
 exact left_any h1
theorem rx_left (h : RX W A F s) : Calls Tryz.prog 58 #[.pointer (some ⟨A, 0, none⟩)] W fun e w' => e = .returned (.int .i64 (s.nodes - (s.sl.length : Nat))) ∧ ∃ k, w' = W.drewN k := by
 obtain ⟨g, c, M, D, L, h1, h2, _⟩ := h
 rw [← ndsR_lenS h2]
 exact rleft_any h1
theorem px_len (h : PX W A F s) : s.sl.length ≤ 65536 ∧ (s.sl.length : Int) ≤ s.nodes ∧ s.nodes ≤ 65536 ∧ 1 ≤ s.sl.length := by
 obtain ⟨M, D, L, h1, h2, _⟩ := h
 rw [← ndsOf_lenS h2]
 exact ⟨h1.n_le, h1.le, h1.nz, h1.one⟩
theorem px_wlt (h : PX W A F s) (id : Int) (hin : s.inn id) : s.w id < 18446744073709551616 := by
 obtain ⟨M, D, L, h1, h2, _⟩ := h
 obtain ⟨i, hi, hid, _⟩ := AS.idx hin
 have hi' : i < L.length := by rw [ndsOf_lenS h2]; exact hi
 rw [(ndsOf_at h2 hi' hid).1]
 exact (h1.sl L[i] (List.getElem_mem hi')).w
/-! ### Word, Lock, Unlock, Grow, Alloc, Held -/
theorem px_word (h : PX W A F s) (id : Int) : Calls Tryz.prog 41 #[.pointer (some ⟨A, 0, none⟩), .int .i64 id] W fun e w' => e = .returned (.tuple #[.int .u64 (s.wordW id : Nat), .int .i64 (s.wordE id)]) ∧ w' = W := by
 obtain ⟨M, D, L, h1, h2, _⟩ := h
 by_cases hin : s.inn id
 ·obtain ⟨i, hi, hid, _⟩ := AS.idx hin
  have hi' : i < L.length := by rw [ndsOf_lenS h2]; exact hi
  have := word_any h1 i hi'
  rw [← hid, ← (ndsOf_at h2 hi' hid).1] at this
  unfold AS.wordW AS.wordE
  rw [if_pos hin, if_pos hin]; exact this
 ·unfold AS.wordW AS.wordE
  rw [if_neg hin, if_neg hin]
  exact word_none h1 id (by rw [ndsOf_lenS h2]; exact hin)
theorem rx_word (h : RX W A F s) (id : Int) : Calls Tryz.prog 98 #[.pointer (some ⟨A, 0, none⟩), .int .i64 id] W fun e w' => e = .returned (.tuple #[.int .u64 (s.wordW id : Nat), .int .i64 (s.wordE id)]) ∧ w' = W := by
 obtain ⟨g, c, M, D, L, h1, h2, _⟩ := h
 by_cases hin : s.inn id
 ·obtain ⟨i, hi, hid, _⟩ := AS.idx hin
  have hi' : i < L.length := by rw [ndsR_lenS h2]; exact hi
  have := rword_any h1 i hi'
  rw [← hid, ← (ndsR_at h2 hi' hid).1] at this
  unfold AS.wordW AS.wordE
  rw [if_pos hin, if_pos hin]; exact this
 ·unfold AS.wordW AS.wordE
  rw [if_neg hin, if_neg hin]
  exact rword_none h1 id (by rw [ndsR_lenS h2]; exact hin)
theorem px_lock (h : PX W A F s) (id : Int) (x : Nat) (hx : x < 18446744073709551616) : Calls Tryz.prog 47 #[.pointer (some ⟨A, 0, none⟩), .int .i64 id, .int .u64 (x : Nat)] W fun e w' => e = .returned (.tuple #[.bool (s.lockB id x), .int .i64 (s.wordE id)]) ∧ PNext W A F (s.lockS id x) w' := by
 have h0 := h
 obtain ⟨M, D, L, h1, h2, h3, h4⟩ := h
 by_cases hin : s.inn id
 ·obtain ⟨i, hi, hid, _⟩ := AS.idx hin
  have hi' : i < L.length := by rw [ndsOf_lenS h2]; exact hi
  obtain ⟨hw, hn⟩ := ndsOf_at h2 hi' hid
  rw [show s.wordE id = 0 from if_pos hin]
  by_cases hl : s.w id = x ∧ x % 2 = 0
  ·rw [show s.lockB id x = true from decide_eq_true ⟨hin, hl⟩, show s.lockS id x = s.setw id (x + 1) from if_pos ⟨hin, hl⟩]
   have hx' : L[i].w = x := by rw [← hw]; exact hl.1
   have := lock_hit h1 i hi' (by rw [hx']; exact hl.2)
   rw [hx', ← hid] at this
   refine this.mono fun e w' ⟨e1, e2⟩ => ⟨e1, ?_⟩
   rw [e2]
   refine pnext_of (s' := s.setw id (x + 1)) h3 h4 (h1.setW hi' (x + 1) (by omega)) ?_ (fun k hk => .inl hk) (fun k hk => .inl hk) ((Upd.refl _ _).setCell _ _ (fun _ => (h1.sl L[i] (List.getElem_mem hi')).m))
   rw [ndsOf_set h2 hid]
   simp only [AS.setw, hn]
  ·rw [show s.lockB id x = false from decide_eq_false (fun e => hl e.2), show s.lockS id x = s from if_neg (fun e => hl e.2)]
   have := lock_miss h1 i hi' x hx (by rw [← hw]; exact hl)
   rw [← hid] at this
   exact this.mono fun e w' ⟨e1, e2⟩ => ⟨e1, by rw [e2]; exact h0.still (Below.refl _ _)⟩
 ·rw [show s.wordE id = 101 from if_neg hin, show s.lockB id x = false from decide_eq_false (fun e => hin e.1), show s.lockS id x = s from if_neg (fun e => hin e.1)]
  exact (lock_none h1 id _ (by rw [ndsOf_lenS h2]; exact hin)).mono fun e w' ⟨e1, e2⟩ => ⟨e1, by rw [e2]; exact h0.still (Below.refl _ _)⟩
theorem rx_lock (h : RX W A F s) (id : Int) (x : Nat) (hx : x < 18446744073709551616) : Calls Tryz.prog 139 #[.pointer (some ⟨A, 0, none⟩), .int .i64 id, .int .u64 (x : Nat)] W fun e w' => e = .returned (.tuple #[.bool (s.lockB id x), .int .i64 (s.wordE id)]) ∧ RNext W A F (s.lockS id x) w' := by
 have h0 := h
 obtain ⟨g, c, M, D, L, h1, h2, h3, h4⟩ := h
 by_cases hin : s.inn id
 ·obtain ⟨i, hi, hid, _⟩ := AS.idx hin
  have hi' : i < L.length := by rw [ndsR_lenS h2]; exact hi
  obtain ⟨hw, hn⟩ := ndsR_at h2 hi' hid
  rw [show s.wordE id = 0 from if_pos hin]
  by_cases hl : s.w id = x ∧ x % 2 = 0
  ·rw [show s.lockB id x = true from decide_eq_true ⟨hin, hl⟩, show s.lockS id x = s.setw id (x + 1) from if_pos ⟨hin, hl⟩]
   have hx' : L[i].w = x := by rw [← hw]; exact hl.1
   have := rlock_hit h1 i hi' (by rw [hx']; exact hl.2)
   rw [hx', ← hid] at this
   refine this.mono fun e w' ⟨e1, e2⟩ => ⟨e1, ?_⟩
   rw [e2]
   refine rnext_of (s' := s.setw id (x + 1)) h3 h4 (h1.setW i hi' (x + 1) (by omega)) ?_ (fun k hk => .inl hk) (fun k hk => .inl hk) ((Upd.refl _ _).setCell _ _ (fun _ => h1.mg))
   rw [ndsR_set h2 hid]
   simp only [AS.setw, hn]
  ·rw [show s.lockB id x = false from decide_eq_false (fun e => hl e.2), show s.lockS id x = s from if_neg (fun e => hl e.2)]
   have := rlock_miss h1 i hi' x hx (by rw [← hw]; exact hl)
   rw [← hid] at this
   exact this.mono fun e w' ⟨e1, e2⟩ => ⟨e1, by rw [e2]; exact h0.still (Below.refl _ _)⟩
 ·rw [show s.wordE id = 101 from if_neg hin, show s.lockB id x = false from decide_eq_false (fun e => hin e.1), show s.lockS id x = s from if_neg (fun e => hin e.1)]
  exact (rlock_none h1 id _ (by rw [ndsR_lenS h2]; exact hin)).mono fun e w' ⟨e1, e2⟩ => ⟨e1, by rw [e2]; exact h0.still (Below.refl _ _)⟩
theorem freeW_lt (x : Nat) (ch : Bool) (hx : x < 18446744073709551616) : freeW x ch < 18446744073709551616 := by
 unfold freeW
 cases ch
 ·simp; omega
 ·simp only [if_true]; omega
theorem px_unlock (h : PX W A F s) (id : Int) (ch : Bool) : Calls Tryz.prog 49 #[.pointer (some ⟨A, 0, none⟩), .int .i64 id, .bool ch] W fun e w' => e = .returned (.int .i64 (s.unlE id)) ∧ PNext W A F (s.unlS id ch) w' := by
 have h0 := h
 obtain ⟨M, D, L, h1, h2, h3, h4⟩ := h
 by_cases hin : s.inn id
 ·obtain ⟨i, hi, hid, _⟩ := AS.idx hin
  have hi' : i < L.length := by rw [ndsOf_lenS h2]; exact hi
  obtain ⟨hw, hn⟩ := ndsOf_at h2 hi' hid
  by_cases hl : s.w id % 2 = 0
  ·have hE : s.unlE id = 102 := by unfold AS.unlE; rw [if_pos hin, if_pos hl]
   rw [show s.unlS id ch = s from if_neg (by rw [hE]; decide), hE]
   have := unlock_free h1 i hi' ch (by rw [← hw]; exact hl)
   rw [← hid] at this
   exact this.mono fun e w' ⟨e1, e2⟩ => ⟨e1, by rw [e2]; exact h0.still (Below.refl _ _)⟩
  ·have hE : s.unlE id = 0 := by unfold AS.unlE; rw [if_pos hin, if_neg hl]
   rw [show s.unlS id ch = s.setw id (freeW (s.w id) ch) from if_pos hE, hE]
   have := unlock_held h1 i hi' ch (by rw [← hw]; omega)
   rw [← hid] at this
   refine this.mono fun e w' ⟨e1, e2⟩ => ⟨e1, ?_⟩
   rw [e2, hw]
   refine pnext_of (s' := s.setw id (freeW L[i].w ch)) h3 h4 (h1.setW hi' (freeW L[i].w ch) (freeW_lt _ _ (h1.sl L[i] (List.getElem_mem hi')).w)) ?_ (fun k hk => .inl hk) (fun k hk => .inl hk) ((Upd.refl _ _).setCell _ _ (fun _ => (h1.sl L[i] (List.getElem_mem hi')).m))
   rw [ndsOf_set h2 hid]
   simp only [AS.setw, hn]
 ·have hE : s.unlE id = 101 := by unfold AS.unlE; rw [if_neg hin]
  rw [show s.unlS id ch = s from if_neg (by rw [hE]; decide), hE]
  exact (unlock_none h1 id ch (by rw [ndsOf_lenS h2]; exact hin)).mono fun e w' ⟨e1, e2⟩ => ⟨e1, by rw [e2]; exact h0.still (Below.refl _ _)⟩
theorem heE_eq {L : List RS} (h : ndsR L = s.sl) (id : Int) : heE L id = s.unlE id := by
 unfold heE AS.unlE
 by_cases hin : s.inn id
 ·obtain ⟨i, hi, hid, e⟩ := AS.idx hin
  have hi' : i < L.length := by rw [ndsR_lenS h]; exact hi
  rw [if_pos hin, if_pos (by rw [ndsR_lenS h]; exact hin), (ndsR_at h hi' hid).1, e, List.getElem?_eq_getElem hi']
  rfl
 ·rw [if_neg hin, if_neg (by rw [ndsR_lenS h]; exact hin)]
theorem rx_unlock (h : RX W A F s) (id : Int) (ch : Bool) : Calls Tryz.prog 100 #[.pointer (some ⟨A, 0, none⟩), .int .i64 id, .bool ch] W fun e w' => e = .returned (.int .i64 (s.unlE id)) ∧ RNext W A F (s.unlS id ch) w' := by
 have h0 := h
 obtain ⟨g, c, M, D, L, h1, h2, h3, h4⟩ := h
 by_cases hE : s.unlE id = 0
 ·have hin : s.inn id := Decidable.byContradiction fun hc => by unfold AS.unlE at hE; rw [if_neg hc] at hE; cases hE
  obtain ⟨i, hi, hid, _⟩ := AS.idx hin
  have hi' : i < L.length := by rw [ndsR_lenS h2]; exact hi
  obtain ⟨hw, hn⟩ := ndsR_at h2 hi' hid
  have hl : ¬ s.w id % 2 = 0 := fun hc => by unfold AS.unlE at hE; rw [if_pos hin, if_pos hc] at hE; cases hE
  rw [show s.unlS id ch = s.setw id (freeW (s.w id) ch) from if_pos hE, hE]
  have := runlock_held h1 i hi' ch (by rw [← hw]; omega)
  rw [← hid] at this
  refine this.mono fun e w' ⟨e1, e2⟩ => ⟨e1, ?_⟩
  rw [e2, hw]
  refine rnext_of (s' := s.setw id (freeW L[i].w ch)) h3 h4 (h1.setW i hi' (freeW L[i].w ch) (freeW_lt _ _ (h1.sl L[i] (List.getElem_mem hi')).w)) ?_ (fun k hk => .inl hk) (fun k hk => .inl hk) ((Upd.refl _ _).setCell _ _ (fun _ => h1.mg))
  rw [ndsR_set h2 hid]
  simp only [AS.setw, hn]
 ·rw [show s.unlS id ch = s from if_neg hE, ← heE_eq h2]
  exact (runlock_not h1 id ch (by rw [heE_eq h2]; exact hE)).mono fun e w' ⟨e1, e2⟩ => ⟨e1, by rw [e2]; exact h0.still (Below.refl _ _)⟩
theorem px_grow (h : PX W A F s) (old id : Int) : Calls Tryz.prog 104 #[.pointer (some ⟨A, 0, none⟩), .int .i64 old, .int .i64 id] W fun e w' => e = .returned (.tuple #[.bool (s.groB old id), .int .i64 (s.wordE id)]) ∧ PNext W A F (s.groS old id) w' := by
 have h0 := h
 obtain ⟨M, D, L, h1, h2, h3, h4⟩ := h
 by_cases hin : s.inn id
 ·rw [show s.wordE id = 0 from if_pos hin]
  have hin' : 1 ≤ id ∧ id ≤ (L.length : Nat) := by rw [ndsOf_lenS h2]; exact hin
  by_cases hr : s.root = old
  ·rw [show s.groB old id = true from decide_eq_true ⟨hin, hr⟩, show s.groS old id = ⟨s.nodes, id, s.sl⟩ from if_pos ⟨hin, hr⟩, ← hr]
   refine (grow_yes h1 id hin').mono fun e w' ⟨e1, e2⟩ => ⟨e1, ?_⟩
   rw [e2]
   exact pnext_of (s' := ⟨s.nodes, id, s.sl⟩) h3 h4 (h1.setR id) h2 (fun k hk => .inl hk) (fun k hk => .inl hk) ((Upd.refl _ _).setCell _ _ (fun _ => h1.mA))
  ·rw [show s.groB old id = false from decide_eq_false (fun e => hr e.2), show s.groS old id = s from if_neg (fun e => hr e.2)]
   exact (grow_no h1 old id hin' hr).mono fun e w' ⟨e1, e2⟩ => ⟨e1, by rw [e2]; exact h0.still (Below.refl _ _)⟩
 ·rw [show s.wordE id = 101 from if_neg hin, show s.groB old id = false from decide_eq_false (fun e => hin e.1), show s.groS old id = s from if_neg (fun e => hin e.1)]
  exact (grow_none h1 old id (by rw [ndsOf_lenS h2]; exact hin)).mono fun e w' ⟨e1, e2⟩ => ⟨e1, by rw [e2]; exact h0.still (Below.refl _ _)⟩
theorem rx_grow (h : RX W A F s) (old id : Int) : Calls Tryz.prog 105 #[.pointer (some ⟨A, 0, none⟩), .int .i64 old, .int .i64 id] W fun e w' => e = .returned (.tuple #[.bool (s.groB old id), .int .i64 (s.wordE id)]) ∧ RNext W A F (s.groS old id) w' := by
 have h0 := h
 obtain ⟨g, c, M, D, L, h1, h2, h3, h4⟩ := h
 by_cases hin : s.inn id
 ·rw [show s.wordE id = 0 from if_pos hin]
  have hin' : 1 ≤ id ∧ id ≤ (L.length : Nat) := by rw [ndsR_lenS h2]; exact hin
  by_cases hr : s.root = old
  ·rw [show s.groB old id = true from decide_eq_true ⟨hin, hr⟩, show s.groS old id = ⟨s.nodes, id, s.sl⟩ from if_pos ⟨hin, hr⟩, ← hr]
   refine (rgrow_yes h1 id hin').mono fun e w' ⟨e1, e2⟩ => ⟨e1, ?_⟩
   rw [e2]
   exact rnext_of (s' := ⟨s.nodes, id, s.sl⟩) h3 h4 (h1.setR id) h2 (fun k hk => .inl hk) (fun k hk => .inl hk) ((Upd.refl _ _).setCell _ _ (fun _ => h1.mA))
  ·rw [show s.groB old id = false from decide_eq_false (fun e => hr e.2), show s.groS old id = s from if_neg (fun e => hr e.2)]
   exact (rgrow_no h1 old id hin' hr).mono fun e w' ⟨e1, e2⟩ => ⟨e1, by rw [e2]; exact h0.still (Below.refl _ _)⟩
 ·rw [show s.wordE id = 101 from if_neg hin, show s.groB old id = false from decide_eq_false (fun e => hin e.1), show s.groS old id = s from if_neg (fun e => hin e.1)]
  exact (rgrow_none h1 old id (by rw [ndsR_lenS h2]; exact hin)).mono fun e w' ⟨e1, e2⟩ => ⟨e1, by rw [e2]; exact h0.still (Below.refl _ _)⟩
theorem px_alloc (h : PX W A F s) : Calls Tryz.prog 96 #[.pointer (some ⟨A, 0, none⟩)] W fun e w' => e = .returned (.tuple #[.int .i64 s.allI, .int .i64 s.allE]) ∧ PNext W A F s.allS w' := by
 have h0 := h
 obtain ⟨M, D, L, h1, h2, h3, h4⟩ := h
 have hl := ndsOf_lenS h2
 by_cases hn : (s.sl.length : Int) < s.nodes
 ·rw [show s.allI = (s.sl.length : Int) + 1 from if_pos hn, show s.allE = 0 from if_pos hn, show s.allS = ⟨s.nodes, s.root, s.sl ++ [(1, NP.zero)]⟩ from if_pos hn]
  refine (alloc_any h1 (by rw [hl]; exact hn)).mono ?_
  rintro e w' ⟨M', b, rfl, hP, hM, hU⟩
  rw [hl]
  refine ⟨rfl, pnext_of (s' := ⟨s.nodes, s.root, s.sl ++ [(1, NP.zero)]⟩) h3 h4 hP ?_ hM (fun k hk => .inl hk) hU⟩
  simp only [ndsOf, List.map_append] at h2 ⊢
  rw [h2]
  rfl
 ·rw [show s.allI = 0 from if_neg hn, show s.allE = 2 from if_neg hn, show s.allS = s from if_neg hn]
  have := h1.le
  refine (alloc_full h1 (by rw [hl] at *; omega)).mono ?_
  rintro e w' ⟨rfl, k, rfl⟩
  exact ⟨rfl, h0.still (below_drewN (Below.refl _ _) k)⟩
theorem rx_alloc (h : RX W A F s) : Calls Tryz.prog 97 #[.pointer (some ⟨A, 0, none⟩)] W fun e w' => e = .returned (.tuple #[.int .i64 s.allI, .int .i64 s.allE]) ∧ RNext W A F s.allS w' := by
 have h0 := h
 obtain ⟨g, c, M, D, L, h1, h2, h3, h4⟩ := h
 have hl := ndsR_lenS h2
 by_cases hn : (s.sl.length : Int) < s.nodes
 ·rw [show s.allI = (s.sl.length : Int) + 1 from if_pos hn, show s.allE = 0 from if_pos hn, show s.allS = ⟨s.nodes, s.root, s.sl ++ [(1, NP.zero)]⟩ from if_pos hn]
  refine (ralloc_any h1 (by rw [hl]; exact hn)).mono ?_
  rintro e w' ⟨g', c', M', rfl, hP, hM, hU⟩
  rw [hl]
  refine ⟨rfl, rnext_of (s' := ⟨s.nodes, s.root, s.sl ++ [(1, NP.zero)]⟩) h3 h4 hP ?_ hM (fun k hk => .inl hk) hU⟩
  simp only [ndsR, List.map_append] at h2 ⊢
  rw [h2]
  rfl
 ·rw [show s.allI = 0 from if_neg hn, show s.allE = 2 from if_neg hn, show s.allS = s from if_neg hn]
  have := h1.le
  refine (ralloc_full h1 (by rw [hl] at *; omega)).mono ?_
  rintro e w' ⟨rfl, k, rfl⟩
  exact ⟨rfl, h0.still (below_drewN (Below.refl _ _) k)⟩
def AS.held (s : AS) : List Int := heldL (s.sl.map (·.1))
theorem px_held (h : PX W A F s) : Calls Tryz.prog 27 #[.pointer (some ⟨A, 0, none⟩)] W (HeldPost W s.held) := by
 obtain ⟨M, D, L, h1, h2, _⟩ := h
 have := held_any h1
 rwa [show heldL (L.map (·.w)) = s.held by unfold AS.held; rw [← h2]; simp [ndsOf, Function.comp_def]] at this
theorem rx_held (h : RX W A F s) : Calls Tryz.prog 70 #[.pointer (some ⟨A, 0, none⟩)] W (HeldPost W s.held) := by
 obtain ⟨g, c, M, D, L, h1, h2, _⟩ := h
 have := rheldL_any h1
 rwa [show heldL (L.map (·.w)) = s.held by unfold AS.held; rw [← h2]; simp [ndsR, Function.comp_def]] at this
end
end Go.Proofs.YtpljbgcofmlhbaaGreat
namespace Go.Proofs.YtpljbgcofmlhbaaGreat
open Go.RowKit
set_option maxRecDepth 100000
def AS.rd (s : AS) (id : Int) : NP := if s.inn id then s.n id else NP.zero
def HdP2 (W : World) (p : NP) (er : Int) (e : Ending) (w' : World) : Prop :=
 ∃ t : Tx, e = .returned (.tuple #[.agg #[.int .i64 p.lv, t.v, .int .i64 p.ri], .int .i64 er]) ∧ t.s = p.hi ∧ OwnB w' W.heap.size 5 t.v t.s ∧ B8 t.s ∧ t.s.length ≤ 140737488351232 ∧ Below W.heap.size W w'
def BdP2 (W : World) (p : NP) (er : Int) (e : Ending) (w' : World) : Prop :=
 ∃ (k v : TL) (c : IL), e = .returned (.tuple #[.agg #[k.v, v.v, c.v], .int .i64 er]) ∧ k.p = p.ks ∧ v.p = p.vs ∧ c.s = p.cs ∧ k.Own w' W.heap.size ∧ v.Own w' W.heap.size ∧ w'.ownsRow W.heap.size 3 1 c.v c.s.length (c.s.map (Value.int .i64)) ∧
  (k.L.length * 24 ≤ 140737488352000 ∧ v.L.length * 24 ≤ 140737488352000 ∧ c.s.length * 8 ≤ 140737488352000) ∧ Below W.heap.size W w'
theorem tl_own_nil (W : World) (N : Nat) : (⟨none, 0, []⟩ : TL).Own W N := ⟨World.ownsRow_nil _ _ _ _, fun x hx => (by cases hx), fun x hx => (by cases hx)⟩
theorem hdP2_of {W w' : World} {e : Ending} {n : Nd} (hn : n.Ok W) (h : HePost W n.lv n.ri n.hi.s.length n.hi.s e w') : HdP2 W n.p 0 e w' := by
 obtain ⟨a, c, rfl, h1, h2⟩ := h
 exact ⟨⟨a, c, n.hi.s⟩, rfl, rfl, h1, hn.h.b8, hn.h.z, h2⟩
theorem bdP2_of {W w' : World} {e : Ending} {n : Nd} (hn : n.Ok W) (h : BoPost W n.ks.L.length n.vs.L.length n.cs.s.length n.ks.L n.vs.L n.cs.s e w') : BdP2 W n.p 0 e w' := by
 obtain ⟨kn, kd, K', vn, vd, V', cn, cd, rfl, p1, p2, l1, l2, o1, o2, o3, hb⟩ := h
 refine ⟨⟨kn, kd, K'⟩, ⟨vn, vd, V'⟩, ⟨cn, cd, n.cs.s⟩, ?_, p1, p2, rfl, o1, o2, o3, ⟨by simp only [l1]; exact hn.kz, by simp only [l2]; exact hn.vz, hn.cz⟩, hb⟩
 simp only [TL.v, IL.v, l1, l2]
section
variable {W : World} {A : Nat} {F : Nat → Prop} {s : AS}
theorem px_head (h : PX W A F s) (id : Int) : Calls Tryz.prog 118 #[.pointer (some ⟨A, 0, none⟩), .int .i64 id] W (HdP2 W (s.rd id) (s.wordE id)) := by
 obtain ⟨M, D, L, h1, h2, _⟩ := h
 unfold AS.rd
 by_cases hin : s.inn id
 ·obtain ⟨i, hi, hid, _⟩ := AS.idx hin
  have hi' : i < L.length := by rw [ndsOf_lenS h2]; exact hi
  obtain ⟨hw, hn⟩ := ndsOf_at h2 hi' hid
  rw [show s.wordE id = 0 from if_pos hin, if_pos hin, hn]
  have := ahead_any h1 i hi'
  rw [← hid] at this
  exact this.mono fun e w' h => hdP2_of (h1.sl L[i] (List.getElem_mem hi')).n h
 ·rw [show s.wordE id = 101 from if_neg hin, if_neg hin]
  refine (head_none h1 id (by rw [ndsOf_lenS h2]; exact hin)).mono ?_
  rintro e w' ⟨rfl, hb⟩
  exact ⟨⟨none, 0, []⟩, rfl, rfl, OwnB.nil _ _ _, B8.nil, Nat.zero_le _, hb⟩
theorem rx_head (h : RX W A F s) (id : Int) : Calls Tryz.prog 115 #[.pointer (some ⟨A, 0, none⟩), .int .i64 id] W (HdP2 W (s.rd id) (s.wordE id)) := by
 obtain ⟨g, c, M, D, L, h1, h2, _⟩ := h
 unfold AS.rd
 by_cases hin : s.inn id
 ·obtain ⟨i, hi, hid, _⟩ := AS.idx hin
  have hi' : i < L.length := by rw [ndsR_lenS h2]; exact hi
  obtain ⟨hw, hn⟩ := ndsR_at h2 hi' hid
  rw [show s.wordE id = 0 from if_pos hin, if_pos hin, hn]
  have := rhead_any h1 i hi'
  rw [← hid] at this
  exact this.mono fun e w' h => hdP2_of (h1.sl L[i] (List.getElem_mem hi')).n h
 ·rw [show s.wordE id = 101 from if_neg hin, if_neg hin]
  refine (rhead_none h1 id (by rw [ndsR_lenS h2]; exact hin)).mono ?_
  rintro e w' ⟨rfl, hb⟩
  exact ⟨⟨none, 0, []⟩, rfl, rfl, OwnB.nil _ _ _, B8.nil, Nat.zero_le _, hb⟩
theorem px_body (h : PX W A F s) (id : Int) : Calls Tryz.prog 119 #[.pointer (some ⟨A, 0, none⟩), .int .i64 id] W (BdP2 W (s.rd id) (s.wordE id)) := by
 obtain ⟨M, D, L, h1, h2, _⟩ := h
 unfold AS.rd
 by_cases hin : s.inn id
 ·obtain ⟨i, hi, hid, _⟩ := AS.idx hin
  have hi' : i < L.length := by rw [ndsOf_lenS h2]; exact hi
  obtain ⟨hw, hn⟩ := ndsOf_at h2 hi' hid
  rw [show s.wordE id = 0 from if_pos hin, if_pos hin, hn]
  have := abody_any h1 i hi'
  rw [← hid] at this
  exact this.mono fun e w' h => bdP2_of (h1.sl L[i] (List.getElem_mem hi')).n h
 ·rw [show s.wordE id = 101 from if_neg hin, if_neg hin]
  refine (body_none h1 id (by rw [ndsOf_lenS h2]; exact hin)).mono ?_
  rintro e w' ⟨rfl, hb⟩
  exact ⟨⟨none, 0, []⟩, ⟨none, 0, []⟩, ⟨none, 0, []⟩, rfl, rfl, rfl, rfl, tl_own_nil _ _, tl_own_nil _ _, World.ownsRow_nil _ _ _ _, ⟨Nat.zero_le _, Nat.zero_le _, Nat.zero_le _⟩, hb⟩
theorem rx_body (h : RX W A F s) (id : Int) : Calls Tryz.prog 116 #[.pointer (some ⟨A, 0, none⟩), .int .i64 id] W (BdP2 W (s.rd id) (s.wordE id)) := by
 obtain ⟨g, c, M, D, L, h1, h2, _⟩ := h
 unfold AS.rd
 by_cases hin : s.inn id
 ·obtain ⟨i, hi, hid, _⟩ := AS.idx hin
  have hi' : i < L.length := by rw [ndsR_lenS h2]; exact hi
  obtain ⟨hw, hn⟩ := ndsR_at h2 hi' hid
  rw [show s.wordE id = 0 from if_pos hin, if_pos hin, hn]
  have := rbody_any h1 i hi'
  rw [← hid] at this
  exact this.mono fun e w' h => bdP2_of (h1.sl L[i] (List.getElem_mem hi')).n h
 ·rw [show s.wordE id = 101 from if_neg hin, if_neg hin]
  refine (rbody_none h1 id (by rw [ndsR_lenS h2]; exact hin)).mono ?_
  rintro e w' ⟨rfl, hb⟩
  exact ⟨⟨none, 0, []⟩, ⟨none, 0, []⟩, ⟨none, 0, []⟩, rfl, rfl, rfl, rfl, tl_own_nil _ _, tl_own_nil _ _, World.ownsRow_nil _ _ _ _, ⟨Nat.zero_le _, Nat.zero_le _, Nat.zero_le _⟩, hb⟩
theorem opE_eq {L : List Sl} (h : ndsOf L = s.sl) (id : Int) (hne : s.unlE id ≠ 0) : opE L id = s.unlE id ∧ ∀ i (hi : i < L.length), id = (i : Int) + 1 → L[i].w % 2 = 0 := by
 unfold opE
 by_cases hin : s.inn id
 ·have hw : s.w id % 2 = 0 := Decidable.byContradiction fun hc => hne (by unfold AS.unlE; rw [if_pos hin, if_neg hc])
  refine ⟨?_, fun i hi hid => by rw [← (ndsOf_at h hi hid).1]; exact hw⟩
  unfold AS.unlE
  rw [if_pos hin, if_pos hw, if_pos (by rw [ndsOf_lenS h]; exact hin)]
 ·refine ⟨?_, fun i hi hid => absurd (show s.inn id by unfold AS.inn; rw [← ndsOf_lenS h]; omega) hin⟩
  unfold AS.unlE
  rw [if_neg hin, if_neg (by rw [ndsOf_lenS h]; exact hin)]
theorem unl_in {id : Int} (hE : s.unlE id = 0) : s.inn id ∧ s.w id % 2 = 1 := by
 have hin : s.inn id := Decidable.byContradiction fun hc => by unfold AS.unlE at hE; rw [if_neg hc] at hE; cases hE
 have hl : ¬ s.w id % 2 = 0 := fun hc => by unfold AS.unlE at hE; rw [if_pos hin, if_pos hc] at hE; cases hE
 exact ⟨hin, by omega⟩
theorem px_setH (h : PX W A F s) (id lv ri : Int) (t : Tx) (ht : t.Ok W) : Calls Tryz.prog 101 #[.pointer (some ⟨A, 0, none⟩), .int .i64 id, .agg #[.int .i64 lv, t.v, .int .i64 ri]] W fun e w' => e = .returned (.int .i64 (s.unlE id)) ∧ PNext W A F (s.hedS id lv t.s ri) w' := by
 have h0 := h
 obtain ⟨M, D, L, h1, h2, h3, h4⟩ := h
 by_cases hE : s.unlE id = 0
 ·obtain ⟨hin, hodd⟩ := unl_in hE
  obtain ⟨i, hi, hid, _⟩ := AS.idx hin
  have hi' : i < L.length := by rw [ndsOf_lenS h2]; exact hi
  obtain ⟨hw, hn⟩ := ndsOf_at h2 hi' hid
  rw [show s.hedS id lv t.s ri = s.setn id ((s.n id).setH lv t.s ri) from if_pos hE, hE]
  have := setHead_any h1 i hi' (by rw [← hw]; exact hodd) lv ri t ht
  rw [← hid] at this
  refine this.mono ?_
  rintro e w' ⟨D', n, rfl, hP, hp, hD, hU⟩
  refine ⟨rfl, pnext_of (s' := s.setn id ((s.n id).setH lv t.s ri)) h3 h4 hP ?_ (fun k hk => .inl hk) hD hU⟩
  rw [ndsOf_set h2 hid]
  simp only [AS.setn, hn, hw, hp]
 ·rw [show s.hedS id lv t.s ri = s from if_neg hE]
  obtain ⟨e1, e2⟩ := opE_eq h2 id hE
  rw [← e1]
  exact (setHead_not h1 id lv ri t e2).mono fun e w' ⟨a1, a2⟩ => ⟨a1, h0.still a2⟩
theorem rx_setH (h : RX W A F s) (id lv ri : Int) (t : Tx) (ht : t.Ok W) : Calls Tryz.prog 102 #[.pointer (some ⟨A, 0, none⟩), .int .i64 id, .agg #[.int .i64 lv, t.v, .int .i64 ri]] W fun e w' => e = .returned (.int .i64 (s.unlE id)) ∧ RNext W A F (s.hedS id lv t.s ri) w' := by
 have h0 := h
 obtain ⟨g, c, M, D, L, h1, h2, h3, h4⟩ := h
 by_cases hE : s.unlE id = 0
 ·obtain ⟨hin, hodd⟩ := unl_in hE
  obtain ⟨i, hi, hid, _⟩ := AS.idx hin
  have hi' : i < L.length := by rw [ndsR_lenS h2]; exact hi
  obtain ⟨hw, hn⟩ := ndsR_at h2 hi' hid
  rw [show s.hedS id lv t.s ri = s.setn id ((s.n id).setH lv t.s ri) from if_pos hE, hE]
  have := rsetHead_any h1 i hi' (by rw [← hw]; exact hodd) lv ri t ht
  rw [← hid] at this
  refine this.mono ?_
  rintro e w' ⟨D', n, rfl, hP, hp, hD, hU⟩
  refine ⟨rfl, rnext_of (s' := s.setn id ((s.n id).setH lv t.s ri)) h3 h4 hP ?_ (fun k hk => .inl hk) hD hU⟩
  rw [ndsR_set h2 hid]
  simp only [AS.setn, hn, hw, hp]
 ·rw [show s.hedS id lv t.s ri = s from if_neg hE, ← heE_eq h2]
  exact (rsetHead_not h1 id lv ri t (by rw [heE_eq h2]; exact hE)).mono fun e w' ⟨a1, a2⟩ => ⟨a1, h0.still a2⟩
theorem px_setB (h : PX W A F s) (id : Int) (k v : TL) (c : IL) (hk : k.Ok W) (hv : v.Ok W) (hc : c.Ok W) (kz : k.L.length * 24 ≤ 140737488352000) (vz : v.L.length * 24 ≤ 140737488352000) (cz : c.s.length * 8 ≤ 140737488352000) :
  Calls Tryz.prog 48 #[.pointer (some ⟨A, 0, none⟩), .int .i64 id, .agg #[k.v, v.v, c.v]] W fun e w' => e = .returned (.int .i64 (s.unlE id)) ∧ PNext W A F (s.bodS id k.p v.p c.s) w' := by
 have h0 := h
 obtain ⟨M, D, L, h1, h2, h3, h4⟩ := h
 by_cases hE : s.unlE id = 0
 ·obtain ⟨hin, hodd⟩ := unl_in hE
  obtain ⟨i, hi, hid, _⟩ := AS.idx hin
  have hi' : i < L.length := by rw [ndsOf_lenS h2]; exact hi
  obtain ⟨hw, hn⟩ := ndsOf_at h2 hi' hid
  rw [show s.bodS id k.p v.p c.s = s.setn id ((s.n id).setB k.p v.p c.s) from if_pos hE, hE]
  have := setBody_any h1 i hi' (by rw [← hw]; exact hodd) k v c hk hv hc kz vz cz
  rw [← hid] at this
  refine this.mono ?_
  rintro e w' ⟨D', n, rfl, hP, hp, hD, hU⟩
  refine ⟨rfl, pnext_of (s' := s.setn id ((s.n id).setB k.p v.p c.s)) h3 h4 hP ?_ (fun k hk => .inl hk) hD hU⟩
  rw [ndsOf_set h2 hid]
  simp only [AS.setn, hn, hw, hp]
 ·rw [show s.bodS id k.p v.p c.s = s from if_neg hE]
  obtain ⟨e1, e2⟩ := opE_eq h2 id hE
  rw [← e1]
  exact (setBody_not h1 id k v c e2).mono fun e w' ⟨a1, a2⟩ => ⟨a1, h0.still a2⟩
theorem rx_setB (h : RX W A F s) (id : Int) (k v : TL) (c : IL) (hk : k.Ok W) (hv : v.Ok W) (hc : c.Ok W) (kz : k.L.length * 24 ≤ 140737488352000) (vz : v.L.length * 24 ≤ 140737488352000) (cz : c.s.length * 8 ≤ 140737488352000) :
  Calls Tryz.prog 103 #[.pointer (some ⟨A, 0, none⟩), .int .i64 id, .agg #[k.v, v.v, c.v]] W fun e w' => e = .returned (.int .i64 (s.unlE id)) ∧ RNext W A F (s.bodS id k.p v.p c.s) w' := by
 have h0 := h
 obtain ⟨g, c0, M, D, L, h1, h2, h3, h4⟩ := h
 by_cases hE : s.unlE id = 0
 ·obtain ⟨hin, hodd⟩ := unl_in hE
  obtain ⟨i, hi, hid, _⟩ := AS.idx hin
  have hi' : i < L.length := by rw [ndsR_lenS h2]; exact hi
  obtain ⟨hw, hn⟩ := ndsR_at h2 hi' hid
  rw [show s.bodS id k.p v.p c.s = s.setn id ((s.n id).setB k.p v.p c.s) from if_pos hE, hE]
  have := rsetBody_any h1 i hi' (by rw [← hw]; exact hodd) k v c hk hv hc kz vz cz
  rw [← hid] at this
  refine this.mono ?_
  rintro e w' ⟨D', n, rfl, hP, hp, hD, hU⟩
  refine ⟨rfl, rnext_of (s' := s.setn id ((s.n id).setB k.p v.p c.s)) h3 h4 hP ?_ (fun k hk => .inl hk) hD hU⟩
  rw [ndsR_set h2 hid]
  simp only [AS.setn, hn, hw, hp]
 ·rw [show s.bodS id k.p v.p c.s = s from if_neg hE, ← heE_eq h2]
  exact (rsetBody_not h1 id k v c (by rw [heE_eq h2]; exact hE)).mono fun e w' ⟨a1, a2⟩ => ⟨a1, h0.still a2⟩
end
/-! ### New -/
def AS.new (nodes : Int) : AS := ⟨nodes, 1, [(0, NP.zero)]⟩
def NewP (w : World) (nodes : Int) (e : Ending) (w' : World) : Prop := ∃ A F, e = .returned (.tuple #[.pointer (some ⟨A, 0, none⟩), .int .i64 0]) ∧ PX w' A F (AS.new nodes) ∧ (∀ k, F k → w.heap.size ≤ k) ∧ Below w.heap.size w w'
def NewR (w : World) (nodes : Int) (e : Ending) (w' : World) : Prop := ∃ A F, e = .returned (.tuple #[.pointer (some ⟨A, 0, none⟩), .int .i64 0]) ∧ RX w' A F (AS.new nodes) ∧ (∀ k, F k → w.heap.size ≤ k) ∧ Below w.heap.size w w'
theorem px_new (nodes : Int) (w : World) (h1 : 1 ≤ nodes) (h2 : nodes ≤ 65536) : Calls Tryz.prog 32 #[.int .i64 nodes] w (NewP w nodes) := by
 refine (new_good nodes w h1 h2).mono ?_
 rintro e w' ⟨A, b, M, rfl, hP, hM, hB⟩
 refine ⟨A, M, rfl, ⟨M, Noth, _, hP, rfl, fun k hk => ?_, fun k hk => hP.lt k (.inl hk)⟩, hM, hB⟩
 rcases hk with hk | hk
 ·exact hk
 ·exact hk.elim
theorem rx_new (nodes : Int) (w : World) (h1 : 1 ≤ nodes) (h2 : nodes ≤ 65536) : Calls Tryz.prog 51 #[.int .i64 nodes] w (NewR w nodes) := by
 refine (rnew_good nodes w h1 h2).mono ?_
 rintro e w' ⟨A, g, c, M, rfl, hP, hM, hB⟩
 refine ⟨A, M, rfl, ⟨g, c, M, Noth, _, hP, rfl, fun k hk => ?_, fun k hk => hP.lt k (.inl hk)⟩, hM, hB⟩
 rcases hk with hk | hk
 ·exact hk
 ·exact hk.elim
end Go.Proofs.YtpljbgcofmlhbaaGreat
namespace Go.Proofs.YtpljbgcofmlhbaaGreat
open Go.RowKit
set_option maxRecDepth 100000
def AW (K : Nat → Prop) (W : World) (P AX AY : Nat) (s t : AS) : Prop :=
 ∃ FX FY, W.heap[P]? = some (.cells #[.pointer (some ⟨AX, 0, none⟩), .pointer (some ⟨AY, 0, none⟩)] 45 (0, 0)) ∧ PX W AX FX s ∧ RX W AY FY t ∧ (∀ k, FX k → ¬ FY k) ∧ (∀ k, FX k ∨ FY k → ¬ K k) ∧ K P ∧ (∀ k, K k → k < W.heap.size)
section
variable {K : Nat → Prop} {W W' : World} {P AX AY : Nat} {s t : AS}
theorem AW.cells (h : AW K W P AX AY s t) : W.cell? ⟨P, 0, none⟩ = some (.pointer (some ⟨AX, 0, none⟩)) ∧ W.cell? ⟨P, 1, none⟩ = some (.pointer (some ⟨AY, 0, none⟩)) := by
 obtain ⟨FX, FY, h1, _⟩ := h
 exact ⟨by rw [cell_of_row _ _ _ _ _ _ h1]; rfl, by rw [cell_of_row _ _ _ _ _ _ h1]; rfl⟩
theorem AW.kp (h : AW K W P AX AY s t) : K P := by obtain ⟨_, _, _, _, _, _, _, h6, _⟩ := h; exact h6
theorem AW.klt (h : AW K W P AX AY s t) : ∀ k, K k → k < W.heap.size := by obtain ⟨_, _, _, _, _, _, _, _, h7⟩ := h; exact h7
theorem AW.more (h : AW K W P AX AY s t) (hb : Below W.heap.size W W') {K' : Nat → Prop} (h1 : ∀ k, K' k → K k ∨ (W.heap.size ≤ k ∧ k < W'.heap.size)) (h2 : K' P) : AW K' W' P AX AY s t := by
 obtain ⟨FX, FY, a1, a2, a3, a4, a5, a6, a7⟩ := h
 have hu : Upd Noth W W' := Upd.of_below hb _
 refine ⟨FX, FY, hu.heap a1 (fun e => e), a2.upd hu (fun _ _ e => e), a3.upd hu (fun _ _ e => e), a4, fun k hk hk' => ?_, h2, fun k hk => ?_⟩
 ·rcases h1 k hk' with h | h
  ·exact a5 k hk h
  ·rcases hk with hk | hk
   ·have := a2.lt k hk; omega
   ·have := a3.lt k hk; omega
 ·rcases h1 k hk with h | h
  ·exact Nat.lt_of_lt_of_le (a7 k h) hb.size
  ·exact h.2
theorem AW.below (h : AW K W P AX AY s t) (hb : Below W.heap.size W W') : AW K W' P AX AY s t := h.more hb (fun _ hk => .inl hk) h.kp
theorem AW.less (h : AW K W P AX AY s t) {K' : Nat → Prop} (h1 : ∀ k, K' k → K k) (h2 : K' P) : AW K' W P AX AY s t := h.more (Below.refl _ _) (fun k hk => .inl (h1 k hk)) h2
theorem kept_cell {p : Addr} {v : Value} (h : Upd (fun k => ¬ K k) W W') (hc : W.cell? p = some v) (hk : K p.block) : W'.cell? p = some v := h.cell hc (fun e => e hk)
theorem kept_heap {g : Nat} {o : Obj} (h : Upd (fun k => ¬ K k) W W') (hc : W.heap[g]? = some o) (hk : K g) : W'.heap[g]? = some o := h.heap hc (fun e => e hk)
theorem kept_less {K' : Nat → Prop} (h : Upd (fun k => ¬ K' k) W W') (hk : ∀ k, K k → K' k) : Upd (fun k => ¬ K k) W W' := h.mono (fun k _ hn e => hn (hk k e))
theorem kept_below (hb : Below W.heap.size W W') : Upd (fun k => ¬ K k) W W' := Upd.of_below hb _
theorem AW.X (h : AW K W P AX AY s t) {f : FuncId} {args : Array Value} {r : Value} {s' : AS} (H : ∀ F, PX W AX F s → Calls Tryz.prog f args W fun e w' => e = .returned r ∧ PNext W AX F s' w') :
  Calls Tryz.prog f args W fun e w' => e = .returned r ∧ AW K w' P AX AY s' t ∧ Upd (fun k => ¬ K k) W w' := by
 obtain ⟨FX, FY, a1, a2, a3, a4, a5, a6, a7⟩ := h
 refine (H FX a2).mono fun e w' ⟨e1, F', p1, st⟩ => ⟨e1, ⟨F', FY, ?_, p1, ?_, ?_, ?_, a6, ?_⟩, ?_⟩
 ·exact st.u.heap a1 (fun e => a5 P (.inl e) a6)
 ·exact a3.upd st.u (fun k hk e => a4 k e hk)
 ·intro k hk hy
  rcases st.f k hk with h | h
  ·exact a4 k h hy
  ·have := a3.lt k hy; omega
 ·intro k hk hK
  rcases hk with hk | hk
  ·rcases st.f k hk with h | h
   ·exact a5 k (.inl h) hK
   ·have := a7 k hK; omega
  ·exact a5 k (.inr hk) hK
 ·exact fun k hk => Nat.lt_of_lt_of_le (a7 k hk) st.u.size
 ·exact st.u.mono (fun k _ hk => a5 k (.inl hk))
theorem AW.Y (h : AW K W P AX AY s t) {f : FuncId} {args : Array Value} {r : Value} {t' : AS} (H : ∀ F, RX W AY F t → Calls Tryz.prog f args W fun e w' => e = .returned r ∧ RNext W AY F t' w') :
  Calls Tryz.prog f args W fun e w' => e = .returned r ∧ AW K w' P AX AY s t' ∧ Upd (fun k => ¬ K k) W w' := by
 obtain ⟨FX, FY, a1, a2, a3, a4, a5, a6, a7⟩ := h
 refine (H FY a3).mono fun e w' ⟨e1, F', p1, st⟩ => ⟨e1, ⟨FX, F', ?_, ?_, p1, ?_, ?_, a6, ?_⟩, ?_⟩
 ·exact st.u.heap a1 (fun e => a5 P (.inr e) a6)
 ·exact a2.upd st.u (fun k hk e => a4 k hk e)
 ·intro k hk hy
  rcases st.f k hy with h | h
  ·exact a4 k hk h
  ·have := a2.lt k hk; omega
 ·intro k hk hK
  rcases hk with hk | hk
  ·exact a5 k (.inl hk) hK
  ·rcases st.f k hk with h | h
   ·exact a5 k (.inr h) hK
   ·have := a7 k hK; omega
 ·exact fun k hk => Nat.lt_of_lt_of_le (a7 k hk) st.u.size
 ·exact st.u.mono (fun k _ hk => a5 k (.inr hk))
theorem AW.px (h : AW K W P AX AY s t) : ∃ F, PX W AX F s := by obtain ⟨FX, FY, _, a2, _⟩ := h; exact ⟨FX, a2⟩
theorem AW.rx (h : AW K W P AX AY s t) : ∃ F, RX W AY F t := by obtain ⟨FX, FY, _, _, a3, _⟩ := h; exact ⟨FY, a3⟩
theorem AW.len (h : AW K W P AX AY s t) : s.sl.length ≤ 65536 ∧ (s.sl.length : Int) ≤ s.nodes ∧ s.nodes ≤ 65536 ∧ 1 ≤ s.sl.length := by obtain ⟨F, h⟩ := h.px; exact px_len h
theorem AW.wlt (h : AW K W P AX AY s t) (id : Int) : s.wordW id < 18446744073709551616 := by
 obtain ⟨F, h⟩ := h.px
 unfold AS.wordW
 split
 ·rename_i hin; exact px_wlt h id hin
 ·decide
theorem aw_wordX (h : AW K W P AX AY s t) (id : Int) : Calls Tryz.prog 41 #[.pointer (some ⟨AX, 0, none⟩), .int .i64 id] W fun e w' => e = .returned (.tuple #[.int .u64 (s.wordW id : Nat), .int .i64 (s.wordE id)]) ∧ w' = W := by obtain ⟨F, h⟩ := h.px; exact px_word h id
theorem aw_wordY (h : AW K W P AX AY s t) (id : Int) : Calls Tryz.prog 98 #[.pointer (some ⟨AY, 0, none⟩), .int .i64 id] W fun e w' => e = .returned (.tuple #[.int .u64 (t.wordW id : Nat), .int .i64 (t.wordE id)]) ∧ w' = W := by obtain ⟨F, h⟩ := h.rx; exact rx_word h id
theorem aw_usedY (h : AW K W P AX AY s t) : Calls Tryz.prog 52 #[.pointer (some ⟨AY, 0, none⟩)] W fun e w' => e = .returned (.int .i64 (t.sl.length : Nat)) ∧ w' = W := by obtain ⟨F, h⟩ := h.rx; exact rx_used h
def AwPost (K : Nat → Prop) (W : World) (P AX AY : Nat) (s : AS) (e : Ending) (w' : World) : Prop := e = .returned (.bool true) ∧ AW K w' P AX AY s s ∧ Upd (fun k => ¬ K k) W w'
set_option maxHeartbeats 800000 in
theorem wid_any (h : AW K W P AX AY s s) (c : Int) (h1 : -9223372036854775808 ≤ c) (h2 : c ≤ 9223372036854775807) :
  Calls Tryz.prog 94 #[.pointer (some ⟨P, 0, none⟩), .int .i64 c] W fun e w' => e = .returned (.int .i64 (pickN c (s.sl.length + 2) : Nat)) ∧ w' = W := by
 obtain ⟨c0, c1⟩ := h.cells
 have HU := hide (aw_usedY h)
 have hl := h.len.1
 clear h
 generalize s.sl.length = n at *
 have HK := hide (pick_any c (n + 2) W (by omega) (by omega) h1 h2)
 rw [show ((n + 2 : Nat) : Int) = (n : Int) + 2 by omega] at HK
 have j1 : (n : Int) + 2 ≤ 70000 := by omega
 generalize pickN c (n + 2) = r at *
 go_enter Tryz.func94, Tryz.ntmps94
 go_wp2_with fail
 refine keep HU.out ?_
 go_wp2_with fail
 refine keep HK.out ?_
 go_wp2_with fail
 go_ret
 exact ⟨rfl, rfl⟩
set_option maxHeartbeats 800000 in
theorem wlock_any (h : AW K W P AX AY s s) (id : Int) (x : Nat) (hx : x < 18446744073709551616) :
  Calls Tryz.prog 99 #[.pointer (some ⟨P, 0, none⟩), .int .i64 id, .int .u64 (x : Nat)] W (AwPost K W P AX AY (s.lockS id x)) := by
 obtain ⟨c0, c1⟩ := h.cells
 have HX := hide (h.X (fun F hp => px_lock hp id x hx))
 have HY : Hid (∀ w', AW K w' P AX AY (s.lockS id x) s → Calls Tryz.prog 139 #[.pointer (some ⟨AY, 0, none⟩), .int .i64 id, .int .u64 (x : Nat)] w' fun e w'' => e = .returned (.tuple #[.bool (s.lockB id x), .int .i64 (s.wordE id)]) ∧ AW K w'' P AX AY (s.lockS id x) (s.lockS id x) ∧ Upd (fun k => ¬ K k) w' w'') := fun w' hw => hw.Y (fun F hp => rx_lock hp id x hx)
 clear h
 generalize s.lockB id x = bb at *
 generalize s.wordE id = er at *
 generalize s.lockS id x = s2 at *
 go_enter Tryz.func99, Tryz.ntmps99
 go_wp2_with fail
 refine HX.out.mono ?_
 rintro e w2 ⟨rfl, hA2, u2⟩
 obtain ⟨d0, d1⟩ := hA2.cells
 have HY2 := hide (HY.out w2 hA2)
 have U2 := hide u2
 clear hA2 u2 HY HX c0 c1
 go_wp2_with fail
 refine HY2.out.mono ?_
 rintro e w3 ⟨rfl, hA3, u3⟩
 have HF : Hid (AwPost K W P AX AY s2 (.returned (.bool true)) w3) := ⟨rfl, hA3, U2.out.trans u3⟩
 clear hA3 u3 HY2
 go_wp2_with fail
 go_ret
 have := HF.out
 simpa using this
end
end Go.Proofs.YtpljbgcofmlhbaaGreat
namespace Go.Proofs.YtpljbgcofmlhbaaGreat
open Go.RowKit
set_option maxRecDepth 100000
def BegP (w : World) (nodes : Int) (e : Ending) (w' : World) : Prop :=
 ∃ P AX AY, e = .returned (.tuple #[.pointer (some ⟨P, 0, none⟩), .bool true]) ∧ AW (fun k => k < w.heap.size ∨ k = P) w' P AX AY (AS.new nodes) (AS.new nodes) ∧ Below w.heap.size w w'
set_option maxHeartbeats 800000 in
theorem begun_bad (nodes : Int) (w : World) (h : ¬ (1 ≤ nodes ∧ nodes ≤ 65536)) : Calls Tryz.prog 9 #[.int .i64 nodes] w fun e w' => e = .returned (.tuple #[.pointer none, .bool true]) ∧ w' = w := by
 have HX := hide (new_bad nodes w h)
 have HY := hide (rnew_bad nodes w h)
 clear h
 go_enter Tryz.func9, Tryz.ntmps9
 go_wp2_with fail
 refine keep HX.out ?_
 go_wp2_with fail
 refine keep HY.out ?_
 go_wp2_with fail
 go_ret2
 exact ⟨rfl, rfl⟩
set_option maxHeartbeats 800000 in
theorem begun_good (nodes : Int) (w : World) (h1 : 1 ≤ nodes) (h2 : nodes ≤ 65536) : Calls Tryz.prog 9 #[.int .i64 nodes] w (BegP w nodes) := by
 have HX := hide (px_new nodes w h1 h2)
 have HY : Hid (∀ W, Calls Tryz.prog 51 #[.int .i64 nodes] W (NewR W nodes)) := fun W => rx_new nodes W h1 h2
 clear h1 h2
 go_enter Tryz.func9, Tryz.ntmps9
 go_wp2_with fail
 refine HX.out.mono ?_
 rintro e w1 ⟨AX, FX, rfl, hp, hf, hb⟩
 have PP := hide hp
 have PF := hide hf
 have B1 := hide hb
 clear hp hf hb
 go_wp2_with fail
 refine (HY.out w1).mono ?_
 rintro e w2 ⟨AY, FY, rfl, hr, hg, hb⟩
 have RR := hide hr
 have RF := hide hg
 have B2 := hide hb
 clear hr hg hb
 go_wp2_with fail
 go_ret2
 have u1 : Upd Noth w1 (w2.alloc (.cells #[.pointer (some ⟨AX, 0, none⟩), .pointer (some ⟨AY, 0, none⟩)] 45)) := (Upd.of_below B2.out _).alloc _
 have u2 : Upd Noth w2 (w2.alloc (.cells #[.pointer (some ⟨AX, 0, none⟩), .pointer (some ⟨AY, 0, none⟩)] 45)) := (Upd.refl _ _).alloc _
 have s1 := B1.out.size
 have s2 := B2.out.size
 refine ⟨w2.heap.size, AX, AY, rfl, ⟨FX, FY, heap_alloc_new w2 _, PP.out.upd u1 (fun _ _ e => e), RR.out.upd u2 (fun _ _ e => e), ?_, ?_, .inr rfl, ?_⟩, ?_⟩
 ·intro k hx hy
  have := PP.out.lt k hx
  have := RF.out k hy
  omega
 ·intro k hk hK
  rcases hk with hk | hk
  ·have := PP.out.lt k hk
   have := PF.out k hk
   omega
  ·have := RR.out.lt k hk
   have := RF.out k hk
   omega
 ·intro k hk
  simp
  omega
 ·exact (B1.out.trans (B2.out.mono s1)).alloc (by omega) _
def AS.finS (u : AS) (id : Int) (p : NP) : AS := ((u.hedS id p.lv p.hi p.ri).bodS id p.ks p.vs p.cs).unlS id true
def AS.layS (s : AS) (id : Int) (p : NP) : AS :=
 if (s.sl.length : Int) < id then (if (s.sl.length : Int) < s.nodes then s.allS.finS id p else s) else (s.lockS id (s.wordW id)).finS id p
theorem Nd.Ok.kept {K : Nat → Prop} {W W' : World} {n : Nd} (h : n.Ok W) (hi : n.In K) (hu : Upd (fun k => ¬ K k) W W') : n.Ok W' := h.upd hi hu (fun _ hk e => e hk)
section
variable {K : Nat → Prop} {W : World} {P AX AY : Nat} {s : AS}
set_option maxRecDepth 100000 in
set_option maxHeartbeats 6400000 in
theorem wlay_any (h : AW K W P AX AY s s) (id : Int) (n : Nd) (hn : n.Ok W) (hi : n.In K) :
  Calls Tryz.prog 106 #[.pointer (some ⟨P, 0, none⟩), .int .i64 id, n.v] W (AwPost K W P AX AY (s.layS id n.p)) := by
 obtain ⟨w0, hw0⟩ : ∃ w0, w0 = W.alloc (.cells #[.int .i64 n.lv, n.hi.v, .int .i64 n.ri, n.ks.v, n.vs.v, n.cs.v] 36) := ⟨_, rfl⟩
 have b0 : Below W.heap.size W w0 := by rw [hw0]; exact (Below.refl _ _).alloc (Nat.le_refl _) _
 have z0 : w0.heap.size = W.heap.size + 1 := by rw [hw0]; simp
 have g0 : w0.heap[W.heap.size]? = some (.cells #[.int .i64 n.lv, n.hi.v, .int .i64 n.ri, n.ks.v, n.vs.v, n.cs.v] 36 (0, 0)) := by rw [hw0]; exact heap_alloc_new W _
 obtain ⟨K', hK'⟩ : ∃ K' : Nat → Prop, K' = fun k => K k ∨ k = W.heap.size := ⟨_, rfl⟩
 have hA0 : AW K' w0 P AX AY s s := h.more b0 (fun k hk => by rw [hK'] at hk; rcases hk with hk | hk; exact .inl hk; exact .inr (by omega)) (by rw [hK']; exact .inl h.kp)
 have hn0 : n.Ok w0 := hn.below b0
 have hi0 : n.In K' := hi.mono (fun k hk => by rw [hK']; exact .inl hk)
 have kb : K' W.heap.size := by rw [hK']; exact .inr rfl
 have kk : ∀ k, K k → K' k := fun k hk => by rw [hK']; exact .inl hk
 have HEND : Hid (∀ w' u, AW K' w' P AX AY u u → Upd (fun k => ¬ K' k) w0 w' → AwPost K W P AX AY u (.returned (.bool true)) w') := fun w' u h1 h2 => ⟨rfl, h1.less kk h.kp, (kept_below b0).trans (kept_less h2 kk)⟩
 have HCE : Hid (∀ w', Upd (fun k => ¬ K' k) w0 w' → Six w' W.heap.size (.int .i64 n.lv) n.hi.v (.int .i64 n.ri) n.ks.v n.vs.v n.cs.v) := fun w' hu => Six.of (kept_heap hu g0 kb)
 have HOK : Hid (∀ w', Upd (fun k => ¬ K' k) w0 w' → n.Ok w') := fun w' hu => hn0.kept hi0 hu
 have HBW := hide h.kp
 have hl := h.len
 have HA0 := hide hA0
 have HW := hide hw0
 have HGB : Hid (w0.cell? ⟨P, 0, none⟩ = some (.pointer (some ⟨AX, 0, none⟩)) ∧ w0.cell? ⟨P, 1, none⟩ = some (.pointer (some ⟨AY, 0, none⟩))) := hA0.cells
 clear h hn hi hK' hA0 hn0 hi0 kb kk b0 g0 hw0
 -- the calls, each of a state
 have SHX : Hid (∀ w' u t, AW K' w' P AX AY u t → Upd (fun k => ¬ K' k) w0 w' → Calls Tryz.prog 101 #[.pointer (some ⟨AX, 0, none⟩), .int .i64 id, .agg #[.int .i64 n.lv, n.hi.v, .int .i64 n.ri]] w' fun e w'' => e = .returned (.int .i64 (u.unlE id)) ∧ AW K' w'' P AX AY (u.hedS id n.lv n.hi.s n.ri) t ∧ Upd (fun k => ¬ K' k) w' w'') := fun w' u t hw hu => hw.X (fun F hp => px_setH hp id n.lv n.ri n.hi (HOK.out w' hu).h)
 have SHY : Hid (∀ w' u t, AW K' w' P AX AY u t → Upd (fun k => ¬ K' k) w0 w' → Calls Tryz.prog 102 #[.pointer (some ⟨AY, 0, none⟩), .int .i64 id, .agg #[.int .i64 n.lv, n.hi.v, .int .i64 n.ri]] w' fun e w'' => e = .returned (.int .i64 (t.unlE id)) ∧ AW K' w'' P AX AY u (t.hedS id n.lv n.hi.s n.ri) ∧ Upd (fun k => ¬ K' k) w' w'') := fun w' u t hw hu => hw.Y (fun F hp => rx_setH hp id n.lv n.ri n.hi (HOK.out w' hu).h)
 have SBX : Hid (∀ w' u t, AW K' w' P AX AY u t → Upd (fun k => ¬ K' k) w0 w' → Calls Tryz.prog 48 #[.pointer (some ⟨AX, 0, none⟩), .int .i64 id, .agg #[n.ks.v, n.vs.v, n.cs.v]] w' fun e w'' => e = .returned (.int .i64 (u.unlE id)) ∧ AW K' w'' P AX AY (u.bodS id n.ks.p n.vs.p n.cs.s) t ∧ Upd (fun k => ¬ K' k) w' w'') := fun w' u t hw hu => hw.X (fun F hp => px_setB hp id n.ks n.vs n.cs (HOK.out w' hu).k (HOK.out w' hu).v (HOK.out w' hu).c (HOK.out w' hu).kz (HOK.out w' hu).vz (HOK.out w' hu).cz)
 have SBY : Hid (∀ w' u t, AW K' w' P AX AY u t → Upd (fun k => ¬ K' k) w0 w' → Calls Tryz.prog 103 #[.pointer (some ⟨AY, 0, none⟩), .int .i64 id, .agg #[n.ks.v, n.vs.v, n.cs.v]] w' fun e w'' => e = .returned (.int .i64 (t.unlE id)) ∧ AW K' w'' P AX AY u (t.bodS id n.ks.p n.vs.p n.cs.s) ∧ Upd (fun k => ¬ K' k) w' w'') := fun w' u t hw hu => hw.Y (fun F hp => rx_setB hp id n.ks n.vs n.cs (HOK.out w' hu).k (HOK.out w' hu).v (HOK.out w' hu).c (HOK.out w' hu).kz (HOK.out w' hu).vz (HOK.out w' hu).cz)
 have ULX : Hid (∀ w' u t, AW K' w' P AX AY u t → Calls Tryz.prog 49 #[.pointer (some ⟨AX, 0, none⟩), .int .i64 id, .bool true] w' fun e w'' => e = .returned (.int .i64 (u.unlE id)) ∧ AW K' w'' P AX AY (u.unlS id true) t ∧ Upd (fun k => ¬ K' k) w' w'') := fun w' u t hw => hw.X (fun F hp => px_unlock hp id true)
 have ULY : Hid (∀ w' u t, AW K' w' P AX AY u t → Calls Tryz.prog 100 #[.pointer (some ⟨AY, 0, none⟩), .int .i64 id, .bool true] w' fun e w'' => e = .returned (.int .i64 (t.unlE id)) ∧ AW K' w'' P AX AY u (t.unlS id true) ∧ Upd (fun k => ¬ K' k) w' w'') := fun w' u t hw => hw.Y (fun F hp => rx_unlock hp id true)
 have HUS : Hid (∀ w', AW K' w' P AX AY s s → Calls Tryz.prog 52 #[.pointer (some ⟨AY, 0, none⟩)] w' fun e w'' => e = .returned (.int .i64 (s.sl.length : Nat)) ∧ w'' = w') := fun w' hw => aw_usedY hw
 have HU0 := hide (HUS.out w0 HA0.out)
 have ALX := hide (HA0.out.X (fun F hp => px_alloc hp))
 have ALY : Hid (∀ w' u, AW K' w' P AX AY u s → Calls Tryz.prog 97 #[.pointer (some ⟨AY, 0, none⟩)] w' fun e w'' => e = .returned (.tuple #[.int .i64 s.allI, .int .i64 s.allE]) ∧ AW K' w'' P AX AY u s.allS ∧ Upd (fun k => ¬ K' k) w' w'') := fun w' u hw => hw.Y (fun F hp => rx_alloc hp)
 have WRY := hide (aw_wordY HA0.out id)
 have LCK := hide (wlock_any HA0.out id (s.wordW id) (HA0.out.wlt id))
 have HFIN : Hid (∀ u : AS, u.finS id n.p = ((u.hedS id n.lv n.hi.s n.ri).bodS id n.ks.p n.vs.p n.cs.s).unlS id true) := fun u => rfl
 have HLAY : Hid (s.layS id n.p = if (s.sl.length : Int) < id then (if (s.sl.length : Int) < s.nodes then s.allS.finS id n.p else s) else (s.lockS id (s.wordW id)).finS id n.p) := rfl
 rw [HLAY.out]
 clear HLAY HOK
 obtain ⟨lv, ⟨ha, hc, hs⟩, ri, ⟨ka, kc, KL⟩, ⟨va, vc, V⟩, ⟨ca, cc, C⟩⟩ := n
 simp only [Nd.v, Tx.v, TL.v, IL.v] at HW HCE SHX SHY SBX SBY ⊢
 generalize Nd.p ⟨lv, ⟨ha, hc, hs⟩, ri, ⟨ka, kc, KL⟩, ⟨va, vc, V⟩, ⟨ca, cc, C⟩⟩ = np at *
 generalize hs.length = lh at *
 generalize KL.length = lk at *
 generalize V.length = lw at *
 generalize C.length = lc at *
 generalize TL.p ⟨ka, kc, KL⟩ = kp at *
 generalize TL.p ⟨va, vc, V⟩ = vp at *
 have Z0 := hide z0
 obtain ⟨m, hm⟩ : ∃ m, s.sl.length = m := ⟨_, rfl⟩
 rw [hm] at HU0 hl
 have HM := hide hm
 rw [hm]
 clear hm z0
 obtain ⟨c0, c1⟩ := HGB.out
 have e0 := c0
 have e1 := c1
 rw [HW.out] at e0 e1
 by_cases hgt : (m : Int) < id
 ·rw [if_pos hgt]
  by_cases hroom : (m : Int) < s.nodes
  ·rw [if_pos hroom]
   have hI : s.allI = (m : Int) + 1 := by unfold AS.allI; rw [HM.out, if_pos hroom]
   have hE : s.allE = 0 := by unfold AS.allE; rw [HM.out, if_pos hroom]
   rw [hI, hE] at ALX ALY
   clear hI hE
   go_enter Tryz.func106, Tryz.ntmps106
   go_wp2_with fail
   rw [← HW.out]
   clear e0 e1
   refine keep HU0.out ?_
   go_wp2_with fail
   refine ALX.out.mono ?_
   rintro e w1 ⟨rfl, hA, hU⟩
   obtain ⟨d0, d1⟩ := hA.cells
   have AY1 := hide (ALY.out w1 s.allS hA)
   have U1 := hide hU
   clear hA hU c0 c1
   go_wp2_with fail
   refine AY1.out.mono ?_
   rintro e w2 ⟨rfl, hA, hU⟩
   have A2 := hide hA
   have U2 := hide (U1.out.trans hU)
   clear hA hU d0 d1 AY1 U1
   obtain ⟨u0, hu0⟩ : ∃ u0, u0 = s.allS := ⟨_, rfl⟩
   rw [← hu0] at A2
   have HUU := hide hu0
   clear hu0 ALX ALY WRY LCK HUS HU0 HA0 HW
   obtain ⟨x0, x1⟩ := A2.out.cells
   obtain ⟨y0, y1, y2, y3, y4, y5⟩ := HCE.out w2 U2.out
   go_wp2_with fail
   go_region_held3 (fun W' => W'.cell? ⟨P, 0, none⟩ = some (.pointer (some ⟨AX, 0, none⟩)) ∧ W'.cell? ⟨W.heap.size, 0, none⟩ = some (.int .i64 lv) ∧ W'.cell? ⟨W.heap.size, 1, none⟩ = some (.slice ha lh hc) ∧ W'.cell? ⟨W.heap.size, 2, none⟩ = some (.int .i64 ri)) (go_keep) (first | (go_at_call 101; refine (SHX.out w2.drew u0 u0 (A2.out.below (below_drew (Below.refl _ _))) (U2.out.drew)).mono ?_; rintro e wq0 ⟨rfl, hA, hU'⟩; have A0 := hide hA; have V0 : Hid (Upd (fun k => ¬ K' k) w2 wq0) := ((Upd.refl _ w2).drew).trans hU'; have U0 := hide (U2.out.trans V0.out); have q0 := (hA.cells).1; have q1 := HCE.out wq0 U0.out; obtain ⟨r0, r1, r2, r3, r4, r5⟩ := q1; clear hA hU') | fail)
   clear x0 x1 y0 y1 y2 y3 y4 y5 q0 r0 r1 r2 r3 r4 r5 V0 SHX
   obtain ⟨x0, x1⟩ := A0.out.cells
   obtain ⟨y0, y1, y2, y3, y4, y5⟩ := HCE.out wq0 U0.out
   go_wp2_with fail
   go_region_held3 (fun W' => W'.cell? ⟨P, 1, none⟩ = some (.pointer (some ⟨AY, 0, none⟩)) ∧ W'.cell? ⟨W.heap.size, 0, none⟩ = some (.int .i64 lv) ∧ W'.cell? ⟨W.heap.size, 1, none⟩ = some (.slice ha lh hc) ∧ W'.cell? ⟨W.heap.size, 2, none⟩ = some (.int .i64 ri)) (go_keep) (first | (go_at_call 102; refine (SHY.out wq0.drew (u0.hedS id lv hs ri) u0 (A0.out.below (below_drew (Below.refl _ _))) (U0.out.drew)).mono ?_; rintro e wq1 ⟨rfl, hA, hU'⟩; have A1 := hide hA; have V1 : Hid (Upd (fun k => ¬ K' k) wq0 wq1) := ((Upd.refl _ wq0).drew).trans hU'; have U1 := hide (U0.out.trans V1.out); have q0 := (hA.cells).2; have q1 := HCE.out wq1 U1.out; obtain ⟨r0, r1, r2, r3, r4, r5⟩ := q1; clear hA hU') | fail)
   clear x0 x1 y0 y1 y2 y3 y4 y5 q0 r0 r1 r2 r3 r4 r5 V1 SHY
   obtain ⟨x0, x1⟩ := A1.out.cells
   obtain ⟨y0, y1, y2, y3, y4, y5⟩ := HCE.out wq1 U1.out
   go_wp2_with fail
   go_region_held3 (fun W' => W'.cell? ⟨P, 0, none⟩ = some (.pointer (some ⟨AX, 0, none⟩)) ∧ W'.cell? ⟨W.heap.size, 3, none⟩ = some (.slice ka lk kc) ∧ W'.cell? ⟨W.heap.size, 4, none⟩ = some (.slice va lw vc) ∧ W'.cell? ⟨W.heap.size, 5, none⟩ = some (.slice ca lc cc)) (go_keep) (first | (go_at_call 48; refine (SBX.out wq1.drew (u0.hedS id lv hs ri) (u0.hedS id lv hs ri) (A1.out.below (below_drew (Below.refl _ _))) (U1.out.drew)).mono ?_; rintro e wq2 ⟨rfl, hA, hU'⟩; have A2 := hide hA; have V2 : Hid (Upd (fun k => ¬ K' k) wq1 wq2) := ((Upd.refl _ wq1).drew).trans hU'; have U2 := hide (U1.out.trans V2.out); have q0 := (hA.cells).1; have q1 := HCE.out wq2 U2.out; obtain ⟨r0, r1, r2, r3, r4, r5⟩ := q1; clear hA hU') | fail)
   clear x0 x1 y0 y1 y2 y3 y4 y5 q0 r0 r1 r2 r3 r4 r5 V2 SBX
   obtain ⟨x0, x1⟩ := A2.out.cells
   obtain ⟨y0, y1, y2, y3, y4, y5⟩ := HCE.out wq2 U2.out
   go_wp2_with fail
   go_region_held3 (fun W' => W'.cell? ⟨P, 1, none⟩ = some (.pointer (some ⟨AY, 0, none⟩)) ∧ W'.cell? ⟨W.heap.size, 3, none⟩ = some (.slice ka lk kc) ∧ W'.cell? ⟨W.heap.size, 4, none⟩ = some (.slice va lw vc) ∧ W'.cell? ⟨W.heap.size, 5, none⟩ = some (.slice ca lc cc)) (go_keep) (first | (go_at_call 103; refine (SBY.out wq2.drew ((u0.hedS id lv hs ri).bodS id kp vp C) (u0.hedS id lv hs ri) (A2.out.below (below_drew (Below.refl _ _))) (U2.out.drew)).mono ?_; rintro e wq3 ⟨rfl, hA, hU'⟩; have A3 := hide hA; have V3 : Hid (Upd (fun k => ¬ K' k) wq2 wq3) := ((Upd.refl _ wq2).drew).trans hU'; have U3 := hide (U2.out.trans V3.out); have q0 := (hA.cells).2; have q1 := HCE.out wq3 U3.out; obtain ⟨r0, r1, r2, r3, r4, r5⟩ := q1; clear hA hU') | fail)
   clear x0 x1 y0 y1 y2 y3 y4 y5 q0 r0 r1 r2 r3 r4 r5 V3 SBY
   obtain ⟨x0, x1⟩ := A3.out.cells
   go_wp2_with fail
   refine (ULX.out wq3 ((u0.hedS id lv hs ri).bodS id kp vp C) ((u0.hedS id lv hs ri).bodS id kp vp C) A3.out).mono ?_
   rintro e wq4 ⟨rfl, hA, hU'⟩
   have A4 := hide hA
   have U4 := hide (U3.out.trans hU')
   clear hA hU' x0 x1 ULX
   obtain ⟨x0, x1⟩ := A4.out.cells
   go_wp2_with fail
   refine (ULY.out wq4 (((u0.hedS id lv hs ri).bodS id kp vp C).unlS id true) ((u0.hedS id lv hs ri).bodS id kp vp C) A4.out).mono ?_
   rintro e wq5 ⟨rfl, hA, hU'⟩
   have HF := hide (HEND.out wq5 (((u0.hedS id lv hs ri).bodS id kp vp C).unlS id true) hA (U4.out.trans hU'))
   clear hA hU' x0 x1 ULY HEND
   go_wp2_with fail
   go_ret
   have := HF.out
   rw [← HFIN.out, HUU.out] at this
   simpa using this
  ·rw [if_neg hroom]
   have hI : s.allI = 0 := by unfold AS.allI; rw [HM.out, if_neg hroom]
   have hE : s.allE = 2 := by unfold AS.allE; rw [HM.out, if_neg hroom]
   have hS : s.allS = s := by unfold AS.allS; rw [HM.out, if_neg hroom]
   rw [hI, hE, hS] at ALX ALY
   clear hI hE hS
   go_enter Tryz.func106, Tryz.ntmps106
   go_wp2_with fail
   rw [← HW.out]
   clear e0 e1
   refine keep HU0.out ?_
   go_wp2_with fail
   refine ALX.out.mono ?_
   rintro e w1 ⟨rfl, hA, hU⟩
   obtain ⟨d0, d1⟩ := hA.cells
   have AY1 := hide (ALY.out w1 s hA)
   have U1 := hide hU
   clear hA hU c0 c1
   go_wp2_with fail
   refine AY1.out.mono ?_
   rintro e w2 ⟨rfl, hA, hU⟩
   have HF := hide (HEND.out w2 s hA (U1.out.trans hU))
   clear hA hU d0 d1 AY1 U1
   go_wp2_with fail
   go_ret
   exact HF.out
 ·rw [if_neg hgt]
  go_enter Tryz.func106, Tryz.ntmps106
  go_wp2_with fail
  rw [← HW.out]
  clear e0 e1
  refine keep HU0.out ?_
  go_wp2_with fail
  refine keep WRY.out ?_
  go_wp2_with fail
  refine LCK.out.mono ?_
  rintro e w2 ⟨rfl, hA, hU⟩
  have A2 := hide hA
  have U2 := hide hU
  clear hA hU c0 c1
  obtain ⟨u0, hu0⟩ : ∃ u0, u0 = s.lockS id (s.wordW id) := ⟨_, rfl⟩
  rw [← hu0] at A2
  have HUU := hide hu0
  clear hu0 ALX ALY WRY LCK HUS HU0 HA0 HW
  obtain ⟨x0, x1⟩ := A2.out.cells
  obtain ⟨y0, y1, y2, y3, y4, y5⟩ := HCE.out w2 U2.out
  go_wp2_with fail
  go_region_held3 (fun W' => W'.cell? ⟨P, 0, none⟩ = some (.pointer (some ⟨AX, 0, none⟩)) ∧ W'.cell? ⟨W.heap.size, 0, none⟩ = some (.int .i64 lv) ∧ W'.cell? ⟨W.heap.size, 1, none⟩ = some (.slice ha lh hc) ∧ W'.cell? ⟨W.heap.size, 2, none⟩ = some (.int .i64 ri)) (go_keep) (first | (go_at_call 101; refine (SHX.out w2.drew u0 u0 (A2.out.below (below_drew (Below.refl _ _))) (U2.out.drew)).mono ?_; rintro e wq0 ⟨rfl, hA, hU'⟩; have A0 := hide hA; have V0 : Hid (Upd (fun k => ¬ K' k) w2 wq0) := ((Upd.refl _ w2).drew).trans hU'; have U0 := hide (U2.out.trans V0.out); have q0 := (hA.cells).1; have q1 := HCE.out wq0 U0.out; obtain ⟨r0, r1, r2, r3, r4, r5⟩ := q1; clear hA hU') | fail)
  clear x0 x1 y0 y1 y2 y3 y4 y5 q0 r0 r1 r2 r3 r4 r5 V0 SHX
  obtain ⟨x0, x1⟩ := A0.out.cells
  obtain ⟨y0, y1, y2, y3, y4, y5⟩ := HCE.out wq0 U0.out
  go_wp2_with fail
  go_region_held3 (fun W' => W'.cell? ⟨P, 1, none⟩ = some (.pointer (some ⟨AY, 0, none⟩)) ∧ W'.cell? ⟨W.heap.size, 0, none⟩ = some (.int .i64 lv) ∧ W'.cell? ⟨W.heap.size, 1, none⟩ = some (.slice ha lh hc) ∧ W'.cell? ⟨W.heap.size, 2, none⟩ = some (.int .i64 ri)) (go_keep) (first | (go_at_call 102; refine (SHY.out wq0.drew (u0.hedS id lv hs ri) u0 (A0.out.below (below_drew (Below.refl _ _))) (U0.out.drew)).mono ?_; rintro e wq1 ⟨rfl, hA, hU'⟩; have A1 := hide hA; have V1 : Hid (Upd (fun k => ¬ K' k) wq0 wq1) := ((Upd.refl _ wq0).drew).trans hU'; have U1 := hide (U0.out.trans V1.out); have q0 := (hA.cells).2; have q1 := HCE.out wq1 U1.out; obtain ⟨r0, r1, r2, r3, r4, r5⟩ := q1; clear hA hU') | fail)
  clear x0 x1 y0 y1 y2 y3 y4 y5 q0 r0 r1 r2 r3 r4 r5 V1 SHY
  obtain ⟨x0, x1⟩ := A1.out.cells
  obtain ⟨y0, y1, y2, y3, y4, y5⟩ := HCE.out wq1 U1.out
  go_wp2_with fail
  go_region_held3 (fun W' => W'.cell? ⟨P, 0, none⟩ = some (.pointer (some ⟨AX, 0, none⟩)) ∧ W'.cell? ⟨W.heap.size, 3, none⟩ = some (.slice ka lk kc) ∧ W'.cell? ⟨W.heap.size, 4, none⟩ = some (.slice va lw vc) ∧ W'.cell? ⟨W.heap.size, 5, none⟩ = some (.slice ca lc cc)) (go_keep) (first | (go_at_call 48; refine (SBX.out wq1.drew (u0.hedS id lv hs ri) (u0.hedS id lv hs ri) (A1.out.below (below_drew (Below.refl _ _))) (U1.out.drew)).mono ?_; rintro e wq2 ⟨rfl, hA, hU'⟩; have A2 := hide hA; have V2 : Hid (Upd (fun k => ¬ K' k) wq1 wq2) := ((Upd.refl _ wq1).drew).trans hU'; have U2 := hide (U1.out.trans V2.out); have q0 := (hA.cells).1; have q1 := HCE.out wq2 U2.out; obtain ⟨r0, r1, r2, r3, r4, r5⟩ := q1; clear hA hU') | fail)
  clear x0 x1 y0 y1 y2 y3 y4 y5 q0 r0 r1 r2 r3 r4 r5 V2 SBX
  obtain ⟨x0, x1⟩ := A2.out.cells
  obtain ⟨y0, y1, y2, y3, y4, y5⟩ := HCE.out wq2 U2.out
  go_wp2_with fail
  go_region_held3 (fun W' => W'.cell? ⟨P, 1, none⟩ = some (.pointer (some ⟨AY, 0, none⟩)) ∧ W'.cell? ⟨W.heap.size, 3, none⟩ = some (.slice ka lk kc) ∧ W'.cell? ⟨W.heap.size, 4, none⟩ = some (.slice va lw vc) ∧ W'.cell? ⟨W.heap.size, 5, none⟩ = some (.slice ca lc cc)) (go_keep) (first | (go_at_call 103; refine (SBY.out wq2.drew ((u0.hedS id lv hs ri).bodS id kp vp C) (u0.hedS id lv hs ri) (A2.out.below (below_drew (Below.refl _ _))) (U2.out.drew)).mono ?_; rintro e wq3 ⟨rfl, hA, hU'⟩; have A3 := hide hA; have V3 : Hid (Upd (fun k => ¬ K' k) wq2 wq3) := ((Upd.refl _ wq2).drew).trans hU'; have U3 := hide (U2.out.trans V3.out); have q0 := (hA.cells).2; have q1 := HCE.out wq3 U3.out; obtain ⟨r0, r1, r2, r3, r4, r5⟩ := q1; clear hA hU') | fail)
  clear x0 x1 y0 y1 y2 y3 y4 y5 q0 r0 r1 r2 r3 r4 r5 V3 SBY
  obtain ⟨x0, x1⟩ := A3.out.cells
  go_wp2_with fail
  refine (ULX.out wq3 ((u0.hedS id lv hs ri).bodS id kp vp C) ((u0.hedS id lv hs ri).bodS id kp vp C) A3.out).mono ?_
  rintro e wq4 ⟨rfl, hA, hU'⟩
  have A4 := hide hA
  have U4 := hide (U3.out.trans hU')
  clear hA hU' x0 x1 ULX
  obtain ⟨x0, x1⟩ := A4.out.cells
  go_wp2_with fail
  refine (ULY.out wq4 (((u0.hedS id lv hs ri).bodS id kp vp C).unlS id true) ((u0.hedS id lv hs ri).bodS id kp vp C) A4.out).mono ?_
  rintro e wq5 ⟨rfl, hA, hU'⟩
  have HF := hide (HEND.out wq5 (((u0.hedS id lv hs ri).bodS id kp vp C).unlS id true) hA (U4.out.trans hU'))
  clear hA hU' x0 x1 ULY HEND
  go_wp2_with fail
  go_ret
  have := HF.out
  rw [← HFIN.out, HUU.out] at this
  simpa using this
end
end Go.Proofs.YtpljbgcofmlhbaaGreat
namespace Go.Proofs.YtpljbgcofmlhbaaGreat
open Go.RowKit
set_option maxRecDepth 100000
structure AOp where
 kind : Int
 a : Int
 b : Int
 w : Nat
 ch : Bool
 n : Nd
def AOp.v (o : AOp) : Value := .agg #[.int .i64 o.kind, .int .i64 o.a, .int .i64 o.b, .int .u64 (o.w : Nat), .bool o.ch, .int .i64 o.n.lv, o.n.hi.v, .int .i64 o.n.ri, o.n.ks.v, o.n.vs.v, o.n.cs.v]
structure AOp.Ok (K : Nat → Prop) (W : World) (o : AOp) : Prop where
 k1 : -9223372036854775808 ≤ o.kind ∧ o.kind ≤ 9223372036854775807
 a1 : -9223372036854775808 ≤ o.a ∧ o.a ≤ 9223372036854775807
 b1 : -9223372036854775808 ≤ o.b ∧ o.b ≤ 9223372036854775807
 w1 : o.w < 18446744073709551616
 n : o.n.Ok W
 i : o.n.In K
theorem AOp.Ok.kept {K : Nat → Prop} {W W' : World} {o : AOp} (h : o.Ok K W) (hu : Upd (fun k => ¬ K k) W W') : o.Ok K W' := ⟨h.k1, h.a1, h.b1, h.w1, h.n.kept h.i hu, h.i⟩
def wadd (a b : Nat) : Nat := (a + b) % 18446744073709551616
theorem wadd_lt (a b : Nat) : wadd a b < 18446744073709551616 := Nat.mod_lt _ (by decide)
theorem wadd_eq (a b : Nat) : IntKind.u64.wrap ((a : Int) + (b : Int)) = ((wadd a b : Nat) : Int) := by
 rw [IntKind.wrap_u64]
 unfold wadd
 omega
def AS.id (s : AS) (c : Int) : Int := ((pickN c (s.sl.length + 2) : Nat) : Int)
def AS.raw (s : AS) (o : AOp) : AS :=
 if pickN o.kind 9 = 0 then s.allS else if pickN o.kind 9 = 1 then s else if pickN o.kind 9 = 2 then s.lockS (s.id o.a) (wadd (s.wordW (s.id o.a)) (pickN o.b 3)) else
 if pickN o.kind 9 = 3 then s.unlS (s.id o.a) o.ch else if pickN o.kind 9 = 4 then s.hedS (s.id o.a) o.n.lv o.n.hi.s o.n.ri else if pickN o.kind 9 = 5 then s.bodS (s.id o.a) o.n.ks.p o.n.vs.p o.n.cs.s else
 if pickN o.kind 9 = 6 then s.groS (s.id o.a) (s.id o.b) else if pickN o.kind 9 = 7 then s.layS (1 + ((pickN o.a (s.sl.length + 1) : Nat) : Int)) o.n.p else s.lockS (s.id o.a) o.w
theorem row_cell {W : World} {b : Nat} {T : TypeId} {cs : Array Value} {v : Value} (h : W.heap[b]? = some (.cells cs T (0, 0))) (j : Nat) (hj : cs[j]? = some v) : W.cell? ⟨b, j, none⟩ = some v := by rw [cell_of_row _ _ _ _ _ _ h]; exact hj
section
variable {K : Nat → Prop} {W : World} {P AX AY : Nat} {s : AS}
set_option maxRecDepth 100000 in
set_option maxHeartbeats 3200000 in
theorem raw0 (h : AW K W P AX AY s s) (o : AOp) (ho : o.Ok K W) (hk : pickN o.kind 9 = 0) : Calls Tryz.prog 54 #[.pointer (some ⟨P, 0, none⟩), o.v] W (AwPost K W P AX AY s.allS) := by
 obtain ⟨kd, ra, rb, rw', ch, n⟩ := o
 obtain ⟨⟨k1, k2⟩, ⟨a1, a2⟩, ⟨b1, b2⟩, w1, hn, hi⟩ := ho
 simp only at hk k1 k2 a1 a2 b1 b2 w1 hn hi
 simp only [AOp.v]
 have hid : s.id ra = ((pickN ra (s.sl.length + 2) : Nat) : Int) := rfl
 obtain ⟨w0, hw0⟩ : ∃ w0, w0 = W.alloc (.cells #[.int .i64 kd, .int .i64 ra, .int .i64 rb, .int .u64 (rw' : Nat), .bool ch, .int .i64 n.lv, n.hi.v, .int .i64 n.ri, n.ks.v, n.vs.v, n.cs.v] 125) := ⟨_, rfl⟩
 have b0 : Below W.heap.size W w0 := by rw [hw0]; exact (Below.refl _ _).alloc (Nat.le_refl _) _
 have z0 : w0.heap.size = W.heap.size + 1 := by rw [hw0]; simp
 have g0 : w0.heap[W.heap.size]? = some (.cells #[.int .i64 kd, .int .i64 ra, .int .i64 rb, .int .u64 (rw' : Nat), .bool ch, .int .i64 n.lv, n.hi.v, .int .i64 n.ri, n.ks.v, n.vs.v, n.cs.v] 125 (0, 0)) := by rw [hw0]; exact heap_alloc_new W _
 obtain ⟨K', hK'⟩ : ∃ K' : Nat → Prop, K' = fun k => K k ∨ k = W.heap.size := ⟨_, rfl⟩
 have hA0 : AW K' w0 P AX AY s s := h.more b0 (fun k hk => by rw [hK'] at hk; rcases hk with hk | hk; exact .inl hk; exact .inr (by omega)) (by rw [hK']; exact .inl h.kp)
 have hi0 : n.In K' := hi.mono (fun k hk => by rw [hK']; exact .inl hk)
 have kb : K' W.heap.size := by rw [hK']; exact .inr rfl
 have kk : ∀ k, K k → K' k := fun k hk => by rw [hK']; exact .inl hk
 have HEND : Hid (∀ w' u, AW K' w' P AX AY u u → Upd (fun k => ¬ K' k) w0 w' → AwPost K W P AX AY u (.returned (.bool true)) w') := fun w' u h1 h2 => ⟨rfl, h1.less kk h.kp, (kept_below b0).trans (kept_less h2 kk)⟩
 have HCE : Hid (∀ w', Upd (fun k => ¬ K' k) w0 w' → w'.heap[W.heap.size]? = some (.cells #[.int .i64 kd, .int .i64 ra, .int .i64 rb, .int .u64 (rw' : Nat), .bool ch, .int .i64 n.lv, n.hi.v, .int .i64 n.ri, n.ks.v, n.vs.v, n.cs.v] 125 (0, 0))) := fun w' hu => kept_heap hu g0 kb
 have HOK : Hid (∀ w', Upd (fun k => ¬ K' k) w0 w' → n.Ok w') := fun w' hu => (hn.below b0).kept hi0 hu
 have HIN := hide hi0
 have HU0 : Hid (Upd (fun k => ¬ K' k) w0 w0) := Upd.refl _ _
 have HID := hide (wid_any hA0 ra a1 a2)
 have HIDB := hide (wid_any hA0 rb b1 b2)
 have HPK := hide (pick_any kd 9 w0 (by decide) (by decide) k1 k2)
 rw [hk, show (((0 : Nat)) : Int) = 0 from rfl, show (((9 : Nat)) : Int) = 9 from rfl] at HPK
 have HLEN := hide hA0.len
 obtain ⟨c0, c1⟩ := hA0.cells
 rw [← hid] at HID
 have HA0 := hide hA0
 have HW := hide hw0
 clear h hn hi hK' hA0 hi0 kb kk b0 hw0 z0 k1 k2 hk hid
 have ALX := hide (HA0.out.X (fun F hp => px_alloc hp))
 have ALY : Hid (∀ w' u, AW K' w' P AX AY u s → Calls Tryz.prog 97 #[.pointer (some ⟨AY, 0, none⟩)] w' fun e w'' => e = .returned (.tuple #[.int .i64 s.allI, .int .i64 s.allE]) ∧ AW K' w'' P AX AY u s.allS ∧ Upd (fun k => ¬ K' k) w' w'') := fun w' u hw => hw.Y (fun F hp => rx_alloc hp)
 obtain ⟨lv, ⟨ha, hc, hs⟩, ri, ⟨ka, kc, KL⟩, ⟨va, vc, V⟩, ⟨ca, cc, C⟩⟩ := n
 simp only [Tx.v, TL.v, IL.v] at *
 generalize hs.length = lh at *
 generalize KL.length = lk at *
 generalize V.length = lw at *
 generalize C.length = lc at *
 generalize s.allI = ai at *
 generalize s.allE = ae at *
 have y0 : w0.cell? ⟨W.heap.size, 0, none⟩ = some (.int .i64 kd) := row_cell g0 0 rfl
 have y1 : w0.cell? ⟨W.heap.size, 1, none⟩ = some (.int .i64 ra) := row_cell g0 1 rfl
 have y2 : w0.cell? ⟨W.heap.size, 2, none⟩ = some (.int .i64 rb) := row_cell g0 2 rfl
 have y3 : w0.cell? ⟨W.heap.size, 3, none⟩ = some (.int .u64 (rw' : Nat)) := row_cell g0 3 rfl
 have y4 : w0.cell? ⟨W.heap.size, 4, none⟩ = some (.bool ch) := row_cell g0 4 rfl
 have y5 : w0.cell? ⟨W.heap.size, 5, none⟩ = some (.int .i64 lv) := row_cell g0 5 rfl
 have y6 : w0.cell? ⟨W.heap.size, 6, none⟩ = some (.slice ha lh hc) := row_cell g0 6 rfl
 have y7 : w0.cell? ⟨W.heap.size, 7, none⟩ = some (.int .i64 ri) := row_cell g0 7 rfl
 have y8 : w0.cell? ⟨W.heap.size, 8, none⟩ = some (.slice ka lk kc) := row_cell g0 8 rfl
 have y9 : w0.cell? ⟨W.heap.size, 9, none⟩ = some (.slice va lw vc) := row_cell g0 9 rfl
 have y10 : w0.cell? ⟨W.heap.size, 10, none⟩ = some (.slice ca lc cc) := row_cell g0 10 rfl
 clear g0
 generalize s.id ra = id at *
 go_enter Tryz.func54, Tryz.ntmps54
 go_wp2_with fail
 rw [← HW.out]
 refine keep HID.out ?_
 go_wp2_with fail
 refine keep HPK.out ?_
 go_wp2_with fail
 refine ALX.out.mono ?_
 rintro e w1 ⟨rfl, hA, hU⟩
 obtain ⟨d0, d1⟩ := hA.cells
 have AY1 := hide (ALY.out w1 _ hA)
 have U1 := hide hU
 clear hA hU c0 c1
 go_wp2_with fail
 refine AY1.out.mono ?_
 rintro e w2 ⟨rfl, hA, hU⟩
 have HF := hide (HEND.out w2 _ hA (U1.out.trans hU))
 clear hA hU HEND
 go_wp2_with fail
 go_ret
 have := HF.out
 simpa using this
set_option maxRecDepth 100000 in
set_option maxHeartbeats 3200000 in
theorem raw1 (h : AW K W P AX AY s s) (o : AOp) (ho : o.Ok K W) (hk : pickN o.kind 9 = 1) : Calls Tryz.prog 54 #[.pointer (some ⟨P, 0, none⟩), o.v] W (AwPost K W P AX AY s) := by
 obtain ⟨kd, ra, rb, rw', ch, n⟩ := o
 obtain ⟨⟨k1, k2⟩, ⟨a1, a2⟩, ⟨b1, b2⟩, w1, hn, hi⟩ := ho
 simp only at hk k1 k2 a1 a2 b1 b2 w1 hn hi
 simp only [AOp.v]
 have hid : s.id ra = ((pickN ra (s.sl.length + 2) : Nat) : Int) := rfl
 obtain ⟨w0, hw0⟩ : ∃ w0, w0 = W.alloc (.cells #[.int .i64 kd, .int .i64 ra, .int .i64 rb, .int .u64 (rw' : Nat), .bool ch, .int .i64 n.lv, n.hi.v, .int .i64 n.ri, n.ks.v, n.vs.v, n.cs.v] 125) := ⟨_, rfl⟩
 have b0 : Below W.heap.size W w0 := by rw [hw0]; exact (Below.refl _ _).alloc (Nat.le_refl _) _
 have z0 : w0.heap.size = W.heap.size + 1 := by rw [hw0]; simp
 have g0 : w0.heap[W.heap.size]? = some (.cells #[.int .i64 kd, .int .i64 ra, .int .i64 rb, .int .u64 (rw' : Nat), .bool ch, .int .i64 n.lv, n.hi.v, .int .i64 n.ri, n.ks.v, n.vs.v, n.cs.v] 125 (0, 0)) := by rw [hw0]; exact heap_alloc_new W _
 obtain ⟨K', hK'⟩ : ∃ K' : Nat → Prop, K' = fun k => K k ∨ k = W.heap.size := ⟨_, rfl⟩
 have hA0 : AW K' w0 P AX AY s s := h.more b0 (fun k hk => by rw [hK'] at hk; rcases hk with hk | hk; exact .inl hk; exact .inr (by omega)) (by rw [hK']; exact .inl h.kp)
 have hi0 : n.In K' := hi.mono (fun k hk => by rw [hK']; exact .inl hk)
 have kb : K' W.heap.size := by rw [hK']; exact .inr rfl
 have kk : ∀ k, K k → K' k := fun k hk => by rw [hK']; exact .inl hk
 have HEND : Hid (∀ w' u, AW K' w' P AX AY u u → Upd (fun k => ¬ K' k) w0 w' → AwPost K W P AX AY u (.returned (.bool true)) w') := fun w' u h1 h2 => ⟨rfl, h1.less kk h.kp, (kept_below b0).trans (kept_less h2 kk)⟩
 have HCE : Hid (∀ w', Upd (fun k => ¬ K' k) w0 w' → w'.heap[W.heap.size]? = some (.cells #[.int .i64 kd, .int .i64 ra, .int .i64 rb, .int .u64 (rw' : Nat), .bool ch, .int .i64 n.lv, n.hi.v, .int .i64 n.ri, n.ks.v, n.vs.v, n.cs.v] 125 (0, 0))) := fun w' hu => kept_heap hu g0 kb
 have HOK : Hid (∀ w', Upd (fun k => ¬ K' k) w0 w' → n.Ok w') := fun w' hu => (hn.below b0).kept hi0 hu
 have HIN := hide hi0
 have HU0 : Hid (Upd (fun k => ¬ K' k) w0 w0) := Upd.refl _ _
 have HID := hide (wid_any hA0 ra a1 a2)
 have HIDB := hide (wid_any hA0 rb b1 b2)
 have HPK := hide (pick_any kd 9 w0 (by decide) (by decide) k1 k2)
 rw [hk, show (((1 : Nat)) : Int) = 1 from rfl, show (((9 : Nat)) : Int) = 9 from rfl] at HPK
 have HLEN := hide hA0.len
 obtain ⟨c0, c1⟩ := hA0.cells
 rw [← hid] at HID
 have HA0 := hide hA0
 have HW := hide hw0
 clear h hn hi hK' hA0 hi0 kb kk b0 hw0 z0 k1 k2 hk hid
 have WX : Hid (∀ w', AW K' w' P AX AY s s → Calls Tryz.prog 41 #[.pointer (some ⟨AX, 0, none⟩), .int .i64 ra] w' fun e w'' => e = .returned (.tuple #[.int .u64 (s.wordW ra : Nat), .int .i64 (s.wordE ra)]) ∧ AW K' w'' P AX AY s s ∧ Upd (fun k => ¬ K' k) w' w'') := fun w' hw => (aw_wordX hw ra).mono fun e w'' ⟨h1, h2⟩ => ⟨h1, by rw [h2]; exact hw, by rw [h2]; exact Upd.refl _ _⟩
 have WY : Hid (∀ w', AW K' w' P AX AY s s → Calls Tryz.prog 98 #[.pointer (some ⟨AY, 0, none⟩), .int .i64 ra] w' fun e w'' => e = .returned (.tuple #[.int .u64 (s.wordW ra : Nat), .int .i64 (s.wordE ra)]) ∧ AW K' w'' P AX AY s s ∧ Upd (fun k => ¬ K' k) w' w'') := fun w' hw => (aw_wordY hw ra).mono fun e w'' ⟨h1, h2⟩ => ⟨h1, by rw [h2]; exact hw, by rw [h2]; exact Upd.refl _ _⟩
 obtain ⟨lv, ⟨ha, hc, hs⟩, ri, ⟨ka, kc, KL⟩, ⟨va, vc, V⟩, ⟨ca, cc, C⟩⟩ := n
 simp only [Tx.v, TL.v, IL.v] at *
 generalize hs.length = lh at *
 generalize KL.length = lk at *
 generalize V.length = lw at *
 generalize C.length = lc at *
 generalize s.wordW ra = ww at *
 generalize s.wordE ra = we at *
 have y0 : w0.cell? ⟨W.heap.size, 0, none⟩ = some (.int .i64 kd) := row_cell g0 0 rfl
 have y1 : w0.cell? ⟨W.heap.size, 1, none⟩ = some (.int .i64 ra) := row_cell g0 1 rfl
 have y2 : w0.cell? ⟨W.heap.size, 2, none⟩ = some (.int .i64 rb) := row_cell g0 2 rfl
 have y3 : w0.cell? ⟨W.heap.size, 3, none⟩ = some (.int .u64 (rw' : Nat)) := row_cell g0 3 rfl
 have y4 : w0.cell? ⟨W.heap.size, 4, none⟩ = some (.bool ch) := row_cell g0 4 rfl
 have y5 : w0.cell? ⟨W.heap.size, 5, none⟩ = some (.int .i64 lv) := row_cell g0 5 rfl
 have y6 : w0.cell? ⟨W.heap.size, 6, none⟩ = some (.slice ha lh hc) := row_cell g0 6 rfl
 have y7 : w0.cell? ⟨W.heap.size, 7, none⟩ = some (.int .i64 ri) := row_cell g0 7 rfl
 have y8 : w0.cell? ⟨W.heap.size, 8, none⟩ = some (.slice ka lk kc) := row_cell g0 8 rfl
 have y9 : w0.cell? ⟨W.heap.size, 9, none⟩ = some (.slice va lw vc) := row_cell g0 9 rfl
 have y10 : w0.cell? ⟨W.heap.size, 10, none⟩ = some (.slice ca lc cc) := row_cell g0 10 rfl
 clear g0
 generalize s.id ra = id at *
 go_enter Tryz.func54, Tryz.ntmps54
 go_wp2_with fail
 rw [← HW.out]
 refine keep HID.out ?_
 go_wp2_with fail
 refine keep HPK.out ?_
 go_wp2_with fail
 go_region_held3 (fun W' => W'.cell? ⟨P, 0, none⟩ = some (.pointer (some ⟨AX, 0, none⟩)) ∧ W'.cell? ⟨W.heap.size, 1, none⟩ = some (.int .i64 ra)) (go_keep) (first
  | (go_at_call 41; refine (WX.out w0.drew (HA0.out.below (below_drew (Below.refl _ _)))).mono ?_; rintro e w1 ⟨rfl, hA, hU⟩; have A1 := hide hA; have U1 : Hid (Upd (fun k => ¬ K' k) w0 w1) := ((Upd.refl _ w0).drew).trans hU; obtain ⟨d0, d1⟩ := hA.cells; have z1 := row_cell (HCE.out w1 U1.out) 1 rfl; clear hA hU)
  | fail)
 clear c0 c1 y0 y1 y2 y3 y4 y5 y6 y7 y8 y9 y10
 go_wp2_with fail
 go_region_held3 (fun W' => W'.cell? ⟨P, 1, none⟩ = some (.pointer (some ⟨AY, 0, none⟩)) ∧ W'.cell? ⟨W.heap.size, 1, none⟩ = some (.int .i64 ra)) (go_keep) (first
  | (go_at_call 98; refine (WY.out w1.drew (A1.out.below (below_drew (Below.refl _ _)))).mono ?_; rintro e w2 ⟨rfl, hA, hU⟩; have A2 := hide hA; have U2 := hide (U1.out.trans (((Upd.refl _ w1).drew).trans hU)); obtain ⟨f0, f1⟩ := hA.cells; have v1 := row_cell (HCE.out w2 U2.out) 1 rfl; clear hA hU)
  | fail)
 have HF := hide (HEND.out w2 _ A2.out U2.out)
 clear HEND d0 d1 z1 f0 f1 v1
 go_wp2_with fail
 go_ret
 have := HF.out
 simpa using this
end
end Go.Proofs.YtpljbgcofmlhbaaGreat
namespace Go.Proofs.YtpljbgcofmlhbaaGreat
open Go.RowKit
set_option maxRecDepth 100000
section
variable {K : Nat → Prop} {W : World} {P AX AY : Nat} {s : AS}
set_option maxRecDepth 100000 in
set_option maxHeartbeats 3200000 in
theorem raw2 (h : AW K W P AX AY s s) (o : AOp) (ho : o.Ok K W) (hk : pickN o.kind 9 = 2) : Calls Tryz.prog 54 #[.pointer (some ⟨P, 0, none⟩), o.v] W (AwPost K W P AX AY (s.lockS (s.id o.a) (wadd (s.wordW (s.id o.a)) (pickN o.b 3)))) := by
 obtain ⟨kd, ra, rb, rw', ch, n⟩ := o
 obtain ⟨⟨k1, k2⟩, ⟨a1, a2⟩, ⟨b1, b2⟩, w1, hn, hi⟩ := ho
 simp only at hk k1 k2 a1 a2 b1 b2 w1 hn hi
 simp only [AOp.v]
 have hid : s.id ra = ((pickN ra (s.sl.length + 2) : Nat) : Int) := rfl
 obtain ⟨w0, hw0⟩ : ∃ w0, w0 = W.alloc (.cells #[.int .i64 kd, .int .i64 ra, .int .i64 rb, .int .u64 (rw' : Nat), .bool ch, .int .i64 n.lv, n.hi.v, .int .i64 n.ri, n.ks.v, n.vs.v, n.cs.v] 125) := ⟨_, rfl⟩
 have b0 : Below W.heap.size W w0 := by rw [hw0]; exact (Below.refl _ _).alloc (Nat.le_refl _) _
 have z0 : w0.heap.size = W.heap.size + 1 := by rw [hw0]; simp
 have g0 : w0.heap[W.heap.size]? = some (.cells #[.int .i64 kd, .int .i64 ra, .int .i64 rb, .int .u64 (rw' : Nat), .bool ch, .int .i64 n.lv, n.hi.v, .int .i64 n.ri, n.ks.v, n.vs.v, n.cs.v] 125 (0, 0)) := by rw [hw0]; exact heap_alloc_new W _
 obtain ⟨K', hK'⟩ : ∃ K' : Nat → Prop, K' = fun k => K k ∨ k = W.heap.size := ⟨_, rfl⟩
 have hA0 : AW K' w0 P AX AY s s := h.more b0 (fun k hk => by rw [hK'] at hk; rcases hk with hk | hk; exact .inl hk; exact .inr (by omega)) (by rw [hK']; exact .inl h.kp)
 have hi0 : n.In K' := hi.mono (fun k hk => by rw [hK']; exact .inl hk)
 have kb : K' W.heap.size := by rw [hK']; exact .inr rfl
 have kk : ∀ k, K k → K' k := fun k hk => by rw [hK']; exact .inl hk
 have HEND : Hid (∀ w' u, AW K' w' P AX AY u u → Upd (fun k => ¬ K' k) w0 w' → AwPost K W P AX AY u (.returned (.bool true)) w') := fun w' u h1 h2 => ⟨rfl, h1.less kk h.kp, (kept_below b0).trans (kept_less h2 kk)⟩
 have HCE : Hid (∀ w', Upd (fun k => ¬ K' k) w0 w' → w'.heap[W.heap.size]? = some (.cells #[.int .i64 kd, .int .i64 ra, .int .i64 rb, .int .u64 (rw' : Nat), .bool ch, .int .i64 n.lv, n.hi.v, .int .i64 n.ri, n.ks.v, n.vs.v, n.cs.v] 125 (0, 0))) := fun w' hu => kept_heap hu g0 kb
 have HOK : Hid (∀ w', Upd (fun k => ¬ K' k) w0 w' → n.Ok w') := fun w' hu => (hn.below b0).kept hi0 hu
 have HIN := hide hi0
 have HU0 : Hid (Upd (fun k => ¬ K' k) w0 w0) := Upd.refl _ _
 have HID := hide (wid_any hA0 ra a1 a2)
 have HIDB := hide (wid_any hA0 rb b1 b2)
 have HPK := hide (pick_any kd 9 w0 (by decide) (by decide) k1 k2)
 rw [hk, show (((2 : Nat)) : Int) = 2 from rfl, show (((9 : Nat)) : Int) = 9 from rfl] at HPK
 have HLEN := hide hA0.len
 obtain ⟨c0, c1⟩ := hA0.cells
 rw [← hid] at HID
 have HA0 := hide hA0
 have HW := hide hw0
 clear h hn hi hK' hA0 hi0 kb kk b0 hw0 z0 k1 k2 hk hid
 have WY := hide (aw_wordY HA0.out (s.id ra))
 have HPB := hide (pick_any rb 3 w0 (by decide) (by decide) b1 b2)
 rw [show (((3 : Nat)) : Int) = 3 from rfl] at HPB
 have hpb := pickN_lt rb 3 (by decide)
 have LCK := hide (wlock_any HA0.out (s.id ra) (wadd (s.wordW (s.id ra)) (pickN rb 3)) (wadd_lt _ _))
 have HNM := hide (wadd_eq (s.wordW (s.id ra)) (pickN rb 3))
 obtain ⟨lv, ⟨ha, hc, hs⟩, ri, ⟨ka, kc, KL⟩, ⟨va, vc, V⟩, ⟨ca, cc, C⟩⟩ := n
 simp only [Tx.v, TL.v, IL.v] at *
 generalize hs.length = lh at *
 generalize KL.length = lk at *
 generalize V.length = lw at *
 generalize C.length = lc at *
 generalize wadd (s.wordW (s.id ra)) (pickN rb 3) = xx at *
 generalize s.wordW (s.id ra) = ww at *
 generalize s.wordE (s.id ra) = we at *
 generalize pickN rb 3 = pb at *
 have y0 : w0.cell? ⟨W.heap.size, 0, none⟩ = some (.int .i64 kd) := row_cell g0 0 rfl
 have y1 : w0.cell? ⟨W.heap.size, 1, none⟩ = some (.int .i64 ra) := row_cell g0 1 rfl
 have y2 : w0.cell? ⟨W.heap.size, 2, none⟩ = some (.int .i64 rb) := row_cell g0 2 rfl
 have y3 : w0.cell? ⟨W.heap.size, 3, none⟩ = some (.int .u64 (rw' : Nat)) := row_cell g0 3 rfl
 have y4 : w0.cell? ⟨W.heap.size, 4, none⟩ = some (.bool ch) := row_cell g0 4 rfl
 have y5 : w0.cell? ⟨W.heap.size, 5, none⟩ = some (.int .i64 lv) := row_cell g0 5 rfl
 have y6 : w0.cell? ⟨W.heap.size, 6, none⟩ = some (.slice ha lh hc) := row_cell g0 6 rfl
 have y7 : w0.cell? ⟨W.heap.size, 7, none⟩ = some (.int .i64 ri) := row_cell g0 7 rfl
 have y8 : w0.cell? ⟨W.heap.size, 8, none⟩ = some (.slice ka lk kc) := row_cell g0 8 rfl
 have y9 : w0.cell? ⟨W.heap.size, 9, none⟩ = some (.slice va lw vc) := row_cell g0 9 rfl
 have y10 : w0.cell? ⟨W.heap.size, 10, none⟩ = some (.slice ca lc cc) := row_cell g0 10 rfl
 clear g0
 generalize s.id ra = id at *
 go_enter Tryz.func54, Tryz.ntmps54
 go_wp2_with fail
 rw [← HW.out]
 refine keep HID.out ?_
 go_wp2_with fail
 refine keep HPK.out ?_
 go_wp2_with fail
 refine keep WY.out ?_
 go_wp2_with fail
 refine keep HPB.out ?_
 go_wp2_with fail
 rw [HNM.out]
 refine LCK.out.mono ?_
 rintro e w2 ⟨rfl, hA, hU⟩
 have HF := hide (HEND.out w2 _ hA hU)
 clear hA hU HEND
 go_wp2_with fail
 go_ret
 exact HF.out
set_option maxRecDepth 100000 in
set_option maxHeartbeats 3200000 in
theorem raw3 (h : AW K W P AX AY s s) (o : AOp) (ho : o.Ok K W) (hk : pickN o.kind 9 = 3) : Calls Tryz.prog 54 #[.pointer (some ⟨P, 0, none⟩), o.v] W (AwPost K W P AX AY (s.unlS (s.id o.a) o.ch)) := by
 obtain ⟨kd, ra, rb, rw', ch, n⟩ := o
 obtain ⟨⟨k1, k2⟩, ⟨a1, a2⟩, ⟨b1, b2⟩, w1, hn, hi⟩ := ho
 simp only at hk k1 k2 a1 a2 b1 b2 w1 hn hi
 simp only [AOp.v]
 have hid : s.id ra = ((pickN ra (s.sl.length + 2) : Nat) : Int) := rfl
 obtain ⟨w0, hw0⟩ : ∃ w0, w0 = W.alloc (.cells #[.int .i64 kd, .int .i64 ra, .int .i64 rb, .int .u64 (rw' : Nat), .bool ch, .int .i64 n.lv, n.hi.v, .int .i64 n.ri, n.ks.v, n.vs.v, n.cs.v] 125) := ⟨_, rfl⟩
 have b0 : Below W.heap.size W w0 := by rw [hw0]; exact (Below.refl _ _).alloc (Nat.le_refl _) _
 have z0 : w0.heap.size = W.heap.size + 1 := by rw [hw0]; simp
 have g0 : w0.heap[W.heap.size]? = some (.cells #[.int .i64 kd, .int .i64 ra, .int .i64 rb, .int .u64 (rw' : Nat), .bool ch, .int .i64 n.lv, n.hi.v, .int .i64 n.ri, n.ks.v, n.vs.v, n.cs.v] 125 (0, 0)) := by rw [hw0]; exact heap_alloc_new W _
 obtain ⟨K', hK'⟩ : ∃ K' : Nat → Prop, K' = fun k => K k ∨ k = W.heap.size := ⟨_, rfl⟩
 have hA0 : AW K' w0 P AX AY s s := h.more b0 (fun k hk => by rw [hK'] at hk; rcases hk with hk | hk; exact .inl hk; exact .inr (by omega)) (by rw [hK']; exact .inl h.kp)
 have hi0 : n.In K' := hi.mono (fun k hk => by rw [hK']; exact .inl hk)
 have kb : K' W.heap.size := by rw [hK']; exact .inr rfl
 have kk : ∀ k, K k → K' k := fun k hk => by rw [hK']; exact .inl hk
 have HEND : Hid (∀ w' u, AW K' w' P AX AY u u → Upd (fun k => ¬ K' k) w0 w' → AwPost K W P AX AY u (.returned (.bool true)) w') := fun w' u h1 h2 => ⟨rfl, h1.less kk h.kp, (kept_below b0).trans (kept_less h2 kk)⟩
 have HCE : Hid (∀ w', Upd (fun k => ¬ K' k) w0 w' → w'.heap[W.heap.size]? = some (.cells #[.int .i64 kd, .int .i64 ra, .int .i64 rb, .int .u64 (rw' : Nat), .bool ch, .int .i64 n.lv, n.hi.v, .int .i64 n.ri, n.ks.v, n.vs.v, n.cs.v] 125 (0, 0))) := fun w' hu => kept_heap hu g0 kb
 have HOK : Hid (∀ w', Upd (fun k => ¬ K' k) w0 w' → n.Ok w') := fun w' hu => (hn.below b0).kept hi0 hu
 have HIN := hide hi0
 have HU0 : Hid (Upd (fun k => ¬ K' k) w0 w0) := Upd.refl _ _
 have HID := hide (wid_any hA0 ra a1 a2)
 have HIDB := hide (wid_any hA0 rb b1 b2)
 have HPK := hide (pick_any kd 9 w0 (by decide) (by decide) k1 k2)
 rw [hk, show (((3 : Nat)) : Int) = 3 from rfl, show (((9 : Nat)) : Int) = 9 from rfl] at HPK
 have HLEN := hide hA0.len
 obtain ⟨c0, c1⟩ := hA0.cells
 rw [← hid] at HID
 have HA0 := hide hA0
 have HW := hide hw0
 clear h hn hi hK' hA0 hi0 kb kk b0 hw0 z0 k1 k2 hk hid
 have CX : Hid (∀ w', AW K' w' P AX AY s s → Upd (fun k => ¬ K' k) w0 w' → Calls Tryz.prog 49 #[.pointer (some ⟨AX, 0, none⟩), .int .i64 (s.id ra), .bool ch] w' fun e w'' => e = .returned (.int .i64 (s.unlE (s.id ra))) ∧ AW K' w'' P AX AY (s.unlS (s.id ra) ch) s ∧ Upd (fun k => ¬ K' k) w' w'') := fun w' hw _ => hw.X (fun F hp => px_unlock hp (s.id ra) ch)
 have CY : Hid (∀ w' u, AW K' w' P AX AY u s → Upd (fun k => ¬ K' k) w0 w' → Calls Tryz.prog 100 #[.pointer (some ⟨AY, 0, none⟩), .int .i64 (s.id ra), .bool ch] w' fun e w'' => e = .returned (.int .i64 (s.unlE (s.id ra))) ∧ AW K' w'' P AX AY u (s.unlS (s.id ra) ch) ∧ Upd (fun k => ¬ K' k) w' w'') := fun w' u hw _ => hw.Y (fun F hp => rx_unlock hp (s.id ra) ch)
 obtain ⟨lv, ⟨ha, hc, hs⟩, ri, ⟨ka, kc, KL⟩, ⟨va, vc, V⟩, ⟨ca, cc, C⟩⟩ := n
 simp only [Tx.v, TL.v, IL.v] at *
 generalize s.unlE (s.id ra) = ue at *
 generalize hs.length = lh at *
 generalize KL.length = lk at *
 generalize V.length = lw at *
 generalize C.length = lc at *
 have y0 : w0.cell? ⟨W.heap.size, 0, none⟩ = some (.int .i64 kd) := row_cell g0 0 rfl
 have y1 : w0.cell? ⟨W.heap.size, 1, none⟩ = some (.int .i64 ra) := row_cell g0 1 rfl
 have y2 : w0.cell? ⟨W.heap.size, 2, none⟩ = some (.int .i64 rb) := row_cell g0 2 rfl
 have y3 : w0.cell? ⟨W.heap.size, 3, none⟩ = some (.int .u64 (rw' : Nat)) := row_cell g0 3 rfl
 have y4 : w0.cell? ⟨W.heap.size, 4, none⟩ = some (.bool ch) := row_cell g0 4 rfl
 have y5 : w0.cell? ⟨W.heap.size, 5, none⟩ = some (.int .i64 lv) := row_cell g0 5 rfl
 have y6 : w0.cell? ⟨W.heap.size, 6, none⟩ = some (.slice ha lh hc) := row_cell g0 6 rfl
 have y7 : w0.cell? ⟨W.heap.size, 7, none⟩ = some (.int .i64 ri) := row_cell g0 7 rfl
 have y8 : w0.cell? ⟨W.heap.size, 8, none⟩ = some (.slice ka lk kc) := row_cell g0 8 rfl
 have y9 : w0.cell? ⟨W.heap.size, 9, none⟩ = some (.slice va lw vc) := row_cell g0 9 rfl
 have y10 : w0.cell? ⟨W.heap.size, 10, none⟩ = some (.slice ca lc cc) := row_cell g0 10 rfl
 clear g0
 generalize s.id ra = id at *
 go_enter Tryz.func54, Tryz.ntmps54
 go_wp2_with fail
 rw [← HW.out]
 refine keep HID.out ?_
 go_wp2_with fail
 refine keep HPK.out ?_
 go_wp2_with fail
 go_region_held3 (fun W' => W'.cell? ⟨P, 0, none⟩ = some (.pointer (some ⟨AX, 0, none⟩)) ∧ W'.cell? ⟨P, 1, none⟩ = some (.pointer (some ⟨AY, 0, none⟩)) ∧ W'.cell? ⟨W.heap.size, 4, none⟩ = some (.bool ch)) (go_keep) (first
  | (go_at_call 100; refine (CY.out w1 _ A1.out U1.out).mono ?_; rintro e w2 ⟨rfl, hA, hU⟩; have A2 := hide hA; have U2 := hide (U1.out.trans hU); obtain ⟨f0, f1⟩ := hA.cells; have t4 := row_cell (HCE.out w2 U2.out) 4 rfl; clear hA hU)
  | (go_at_call 49; refine (CX.out w0.drew (HA0.out.below (below_drew (Below.refl _ _))) (HU0.out.drew)).mono ?_; rintro e w1 ⟨rfl, hA, hU⟩; have A1 := hide hA; have U1 : Hid (Upd (fun k => ¬ K' k) w0 w1) := ((Upd.refl _ w0).drew).trans hU; obtain ⟨d0, d1⟩ := hA.cells; have u4 := row_cell (HCE.out w1 U1.out) 4 rfl; clear hA hU)
  | fail)
 have HF := hide (HEND.out w2 _ A2.out U2.out)
 clear HEND d0 d1 f0 f1
 go_wp2_with fail
 go_ret
 have := HF.out
 simpa using this
end
end Go.Proofs.YtpljbgcofmlhbaaGreat
namespace Go.Proofs.YtpljbgcofmlhbaaGreat
open Go.RowKit
set_option maxRecDepth 100000
section
variable {K : Nat → Prop} {W : World} {P AX AY : Nat} {s : AS}
set_option maxRecDepth 100000 in
set_option maxHeartbeats 3200000 in
theorem raw4 (h : AW K W P AX AY s s) (o : AOp) (ho : o.Ok K W) (hk : pickN o.kind 9 = 4) : Calls Tryz.prog 54 #[.pointer (some ⟨P, 0, none⟩), o.v] W (AwPost K W P AX AY (s.hedS (s.id o.a) o.n.lv o.n.hi.s o.n.ri)) := by
 obtain ⟨kd, ra, rb, rw', ch, n⟩ := o
 obtain ⟨⟨k1, k2⟩, ⟨a1, a2⟩, ⟨b1, b2⟩, w1, hn, hi⟩ := ho
 simp only at hk k1 k2 a1 a2 b1 b2 w1 hn hi
 simp only [AOp.v]
 have hid : s.id ra = ((pickN ra (s.sl.length + 2) : Nat) : Int) := rfl
 obtain ⟨w0, hw0⟩ : ∃ w0, w0 = W.alloc (.cells #[.int .i64 kd, .int .i64 ra, .int .i64 rb, .int .u64 (rw' : Nat), .bool ch, .int .i64 n.lv, n.hi.v, .int .i64 n.ri, n.ks.v, n.vs.v, n.cs.v] 125) := ⟨_, rfl⟩
 have b0 : Below W.heap.size W w0 := by rw [hw0]; exact (Below.refl _ _).alloc (Nat.le_refl _) _
 have z0 : w0.heap.size = W.heap.size + 1 := by rw [hw0]; simp
 have g0 : w0.heap[W.heap.size]? = some (.cells #[.int .i64 kd, .int .i64 ra, .int .i64 rb, .int .u64 (rw' : Nat), .bool ch, .int .i64 n.lv, n.hi.v, .int .i64 n.ri, n.ks.v, n.vs.v, n.cs.v] 125 (0, 0)) := by rw [hw0]; exact heap_alloc_new W _
 obtain ⟨K', hK'⟩ : ∃ K' : Nat → Prop, K' = fun k => K k ∨ k = W.heap.size := ⟨_, rfl⟩
 have hA0 : AW K' w0 P AX AY s s := h.more b0 (fun k hk => by rw [hK'] at hk; rcases hk with hk | hk; exact .inl hk; exact .inr (by omega)) (by rw [hK']; exact .inl h.kp)
 have hi0 : n.In K' := hi.mono (fun k hk => by rw [hK']; exact .inl hk)
 have kb : K' W.heap.size := by rw [hK']; exact .inr rfl
 have kk : ∀ k, K k → K' k := fun k hk => by rw [hK']; exact .inl hk
 have HEND : Hid (∀ w' u, AW K' w' P AX AY u u → Upd (fun k => ¬ K' k) w0 w' → AwPost K W P AX AY u (.returned (.bool true)) w') := fun w' u h1 h2 => ⟨rfl, h1.less kk h.kp, (kept_below b0).trans (kept_less h2 kk)⟩
 have HCE : Hid (∀ w', Upd (fun k => ¬ K' k) w0 w' → w'.heap[W.heap.size]? = some (.cells #[.int .i64 kd, .int .i64 ra, .int .i64 rb, .int .u64 (rw' : Nat), .bool ch, .int .i64 n.lv, n.hi.v, .int .i64 n.ri, n.ks.v, n.vs.v, n.cs.v] 125 (0, 0))) := fun w' hu => kept_heap hu g0 kb
 have HOK : Hid (∀ w', Upd (fun k => ¬ K' k) w0 w' → n.Ok w') := fun w' hu => (hn.below b0).kept hi0 hu
 have HIN := hide hi0
 have HU0 : Hid (Upd (fun k => ¬ K' k) w0 w0) := Upd.refl _ _
 have HID := hide (wid_any hA0 ra a1 a2)
 have HIDB := hide (wid_any hA0 rb b1 b2)
 have HPK := hide (pick_any kd 9 w0 (by decide) (by decide) k1 k2)
 rw [hk, show (((4 : Nat)) : Int) = 4 from rfl, show (((9 : Nat)) : Int) = 9 from rfl] at HPK
 have HLEN := hide hA0.len
 obtain ⟨c0, c1⟩ := hA0.cells
 rw [← hid] at HID
 have HA0 := hide hA0
 have HW := hide hw0
 clear h hn hi hK' hA0 hi0 kb kk b0 hw0 z0 k1 k2 hk hid
 have CX : Hid (∀ w', AW K' w' P AX AY s s → Upd (fun k => ¬ K' k) w0 w' → Calls Tryz.prog 101 #[.pointer (some ⟨AX, 0, none⟩), .int .i64 (s.id ra), .agg #[.int .i64 n.lv, n.hi.v, .int .i64 n.ri]] w' fun e w'' => e = .returned (.int .i64 (s.unlE (s.id ra))) ∧ AW K' w'' P AX AY (s.hedS (s.id ra) n.lv n.hi.s n.ri) s ∧ Upd (fun k => ¬ K' k) w' w'') := fun w' hw hu => hw.X (fun F hp => px_setH hp (s.id ra) n.lv n.ri n.hi (HOK.out w' hu).h)
 have CY : Hid (∀ w' u, AW K' w' P AX AY u s → Upd (fun k => ¬ K' k) w0 w' → Calls Tryz.prog 102 #[.pointer (some ⟨AY, 0, none⟩), .int .i64 (s.id ra), .agg #[.int .i64 n.lv, n.hi.v, .int .i64 n.ri]] w' fun e w'' => e = .returned (.int .i64 (s.unlE (s.id ra))) ∧ AW K' w'' P AX AY u (s.hedS (s.id ra) n.lv n.hi.s n.ri) ∧ Upd (fun k => ¬ K' k) w' w'') := fun w' u hw hu => hw.Y (fun F hp => rx_setH hp (s.id ra) n.lv n.ri n.hi (HOK.out w' hu).h)
 obtain ⟨lv, ⟨ha, hc, hs⟩, ri, ⟨ka, kc, KL⟩, ⟨va, vc, V⟩, ⟨ca, cc, C⟩⟩ := n
 simp only [Tx.v, TL.v, IL.v] at *
 generalize s.unlE (s.id ra) = ue at *
 generalize hs.length = lh at *
 generalize KL.length = lk at *
 generalize V.length = lw at *
 generalize C.length = lc at *
 have y0 : w0.cell? ⟨W.heap.size, 0, none⟩ = some (.int .i64 kd) := row_cell g0 0 rfl
 have y1 : w0.cell? ⟨W.heap.size, 1, none⟩ = some (.int .i64 ra) := row_cell g0 1 rfl
 have y2 : w0.cell? ⟨W.heap.size, 2, none⟩ = some (.int .i64 rb) := row_cell g0 2 rfl
 have y3 : w0.cell? ⟨W.heap.size, 3, none⟩ = some (.int .u64 (rw' : Nat)) := row_cell g0 3 rfl
 have y4 : w0.cell? ⟨W.heap.size, 4, none⟩ = some (.bool ch) := row_cell g0 4 rfl
 have y5 : w0.cell? ⟨W.heap.size, 5, none⟩ = some (.int .i64 lv) := row_cell g0 5 rfl
 have y6 : w0.cell? ⟨W.heap.size, 6, none⟩ = some (.slice ha lh hc) := row_cell g0 6 rfl
 have y7 : w0.cell? ⟨W.heap.size, 7, none⟩ = some (.int .i64 ri) := row_cell g0 7 rfl
 have y8 : w0.cell? ⟨W.heap.size, 8, none⟩ = some (.slice ka lk kc) := row_cell g0 8 rfl
 have y9 : w0.cell? ⟨W.heap.size, 9, none⟩ = some (.slice va lw vc) := row_cell g0 9 rfl
 have y10 : w0.cell? ⟨W.heap.size, 10, none⟩ = some (.slice ca lc cc) := row_cell g0 10 rfl
 clear g0
 generalize s.id ra = id at *
 go_enter Tryz.func54, Tryz.ntmps54
 go_wp2_with fail
 rw [← HW.out]
 refine keep HID.out ?_
 go_wp2_with fail
 refine keep HPK.out ?_
 go_wp2_with fail
 go_region_held3 (fun W' => W'.cell? ⟨P, 0, none⟩ = some (.pointer (some ⟨AX, 0, none⟩)) ∧ W'.cell? ⟨P, 1, none⟩ = some (.pointer (some ⟨AY, 0, none⟩)) ∧ W'.cell? ⟨W.heap.size, 5, none⟩ = some (.int .i64 lv) ∧ W'.cell? ⟨W.heap.size, 6, none⟩ = some (.slice ha lh hc) ∧ W'.cell? ⟨W.heap.size, 7, none⟩ = some (.int .i64 ri)) (go_keep) (first
  | (go_at_call 102; refine (CY.out w1 _ A1.out U1.out).mono ?_; rintro e w2 ⟨rfl, hA, hU⟩; have A2 := hide hA; have U2 := hide (U1.out.trans hU); obtain ⟨f0, f1⟩ := hA.cells; have t5 := row_cell (HCE.out w2 U2.out) 5 rfl; have t6 := row_cell (HCE.out w2 U2.out) 6 rfl; have t7 := row_cell (HCE.out w2 U2.out) 7 rfl; clear hA hU)
  | (go_at_call 101; refine (CX.out w0.drew (HA0.out.below (below_drew (Below.refl _ _))) (HU0.out.drew)).mono ?_; rintro e w1 ⟨rfl, hA, hU⟩; have A1 := hide hA; have U1 : Hid (Upd (fun k => ¬ K' k) w0 w1) := ((Upd.refl _ w0).drew).trans hU; obtain ⟨d0, d1⟩ := hA.cells; have u5 := row_cell (HCE.out w1 U1.out) 5 rfl; have u6 := row_cell (HCE.out w1 U1.out) 6 rfl; have u7 := row_cell (HCE.out w1 U1.out) 7 rfl; clear hA hU)
  | fail)
 have HF := hide (HEND.out w2 _ A2.out U2.out)
 clear HEND d0 d1 f0 f1
 go_wp2_with fail
 go_ret
 have := HF.out
 simpa using this
set_option maxRecDepth 100000 in
set_option maxHeartbeats 3200000 in
theorem raw5 (h : AW K W P AX AY s s) (o : AOp) (ho : o.Ok K W) (hk : pickN o.kind 9 = 5) : Calls Tryz.prog 54 #[.pointer (some ⟨P, 0, none⟩), o.v] W (AwPost K W P AX AY (s.bodS (s.id o.a) o.n.ks.p o.n.vs.p o.n.cs.s)) := by
 obtain ⟨kd, ra, rb, rw', ch, n⟩ := o
 obtain ⟨⟨k1, k2⟩, ⟨a1, a2⟩, ⟨b1, b2⟩, w1, hn, hi⟩ := ho
 simp only at hk k1 k2 a1 a2 b1 b2 w1 hn hi
 simp only [AOp.v]
 have hid : s.id ra = ((pickN ra (s.sl.length + 2) : Nat) : Int) := rfl
 obtain ⟨w0, hw0⟩ : ∃ w0, w0 = W.alloc (.cells #[.int .i64 kd, .int .i64 ra, .int .i64 rb, .int .u64 (rw' : Nat), .bool ch, .int .i64 n.lv, n.hi.v, .int .i64 n.ri, n.ks.v, n.vs.v, n.cs.v] 125) := ⟨_, rfl⟩
 have b0 : Below W.heap.size W w0 := by rw [hw0]; exact (Below.refl _ _).alloc (Nat.le_refl _) _
 have z0 : w0.heap.size = W.heap.size + 1 := by rw [hw0]; simp
 have g0 : w0.heap[W.heap.size]? = some (.cells #[.int .i64 kd, .int .i64 ra, .int .i64 rb, .int .u64 (rw' : Nat), .bool ch, .int .i64 n.lv, n.hi.v, .int .i64 n.ri, n.ks.v, n.vs.v, n.cs.v] 125 (0, 0)) := by rw [hw0]; exact heap_alloc_new W _
 obtain ⟨K', hK'⟩ : ∃ K' : Nat → Prop, K' = fun k => K k ∨ k = W.heap.size := ⟨_, rfl⟩
 have hA0 : AW K' w0 P AX AY s s := h.more b0 (fun k hk => by rw [hK'] at hk; rcases hk with hk | hk; exact .inl hk; exact .inr (by omega)) (by rw [hK']; exact .inl h.kp)
 have hi0 : n.In K' := hi.mono (fun k hk => by rw [hK']; exact .inl hk)
 have kb : K' W.heap.size := by rw [hK']; exact .inr rfl
 have kk : ∀ k, K k → K' k := fun k hk => by rw [hK']; exact .inl hk
 have HEND : Hid (∀ w' u, AW K' w' P AX AY u u → Upd (fun k => ¬ K' k) w0 w' → AwPost K W P AX AY u (.returned (.bool true)) w') := fun w' u h1 h2 => ⟨rfl, h1.less kk h.kp, (kept_below b0).trans (kept_less h2 kk)⟩
 have HCE : Hid (∀ w', Upd (fun k => ¬ K' k) w0 w' → w'.heap[W.heap.size]? = some (.cells #[.int .i64 kd, .int .i64 ra, .int .i64 rb, .int .u64 (rw' : Nat), .bool ch, .int .i64 n.lv, n.hi.v, .int .i64 n.ri, n.ks.v, n.vs.v, n.cs.v] 125 (0, 0))) := fun w' hu => kept_heap hu g0 kb
 have HOK : Hid (∀ w', Upd (fun k => ¬ K' k) w0 w' → n.Ok w') := fun w' hu => (hn.below b0).kept hi0 hu
 have HIN := hide hi0
 have HU0 : Hid (Upd (fun k => ¬ K' k) w0 w0) := Upd.refl _ _
 have HID := hide (wid_any hA0 ra a1 a2)
 have HIDB := hide (wid_any hA0 rb b1 b2)
 have HPK := hide (pick_any kd 9 w0 (by decide) (by decide) k1 k2)
 rw [hk, show (((5 : Nat)) : Int) = 5 from rfl, show (((9 : Nat)) : Int) = 9 from rfl] at HPK
 have HLEN := hide hA0.len
 obtain ⟨c0, c1⟩ := hA0.cells
 rw [← hid] at HID
 have HA0 := hide hA0
 have HW := hide hw0
 clear h hn hi hK' hA0 hi0 kb kk b0 hw0 z0 k1 k2 hk hid
 have CX : Hid (∀ w', AW K' w' P AX AY s s → Upd (fun k => ¬ K' k) w0 w' → Calls Tryz.prog 48 #[.pointer (some ⟨AX, 0, none⟩), .int .i64 (s.id ra), .agg #[n.ks.v, n.vs.v, n.cs.v]] w' fun e w'' => e = .returned (.int .i64 (s.unlE (s.id ra))) ∧ AW K' w'' P AX AY (s.bodS (s.id ra) n.ks.p n.vs.p n.cs.s) s ∧ Upd (fun k => ¬ K' k) w' w'') := fun w' hw hu => hw.X (fun F hp => px_setB hp (s.id ra) n.ks n.vs n.cs (HOK.out w' hu).k (HOK.out w' hu).v (HOK.out w' hu).c (HOK.out w' hu).kz (HOK.out w' hu).vz (HOK.out w' hu).cz)
 have CY : Hid (∀ w' u, AW K' w' P AX AY u s → Upd (fun k => ¬ K' k) w0 w' → Calls Tryz.prog 103 #[.pointer (some ⟨AY, 0, none⟩), .int .i64 (s.id ra), .agg #[n.ks.v, n.vs.v, n.cs.v]] w' fun e w'' => e = .returned (.int .i64 (s.unlE (s.id ra))) ∧ AW K' w'' P AX AY u (s.bodS (s.id ra) n.ks.p n.vs.p n.cs.s) ∧ Upd (fun k => ¬ K' k) w' w'') := fun w' u hw hu => hw.Y (fun F hp => rx_setB hp (s.id ra) n.ks n.vs n.cs (HOK.out w' hu).k (HOK.out w' hu).v (HOK.out w' hu).c (HOK.out w' hu).kz (HOK.out w' hu).vz (HOK.out w' hu).cz)
 obtain ⟨lv, ⟨ha, hc, hs⟩, ri, ⟨ka, kc, KL⟩, ⟨va, vc, V⟩, ⟨ca, cc, C⟩⟩ := n
 simp only [Tx.v, TL.v, IL.v] at *
 generalize s.unlE (s.id ra) = ue at *
 generalize hs.length = lh at *
 generalize KL.length = lk at *
 generalize V.length = lw at *
 generalize C.length = lc at *
 have y0 : w0.cell? ⟨W.heap.size, 0, none⟩ = some (.int .i64 kd) := row_cell g0 0 rfl
 have y1 : w0.cell? ⟨W.heap.size, 1, none⟩ = some (.int .i64 ra) := row_cell g0 1 rfl
 have y2 : w0.cell? ⟨W.heap.size, 2, none⟩ = some (.int .i64 rb) := row_cell g0 2 rfl
 have y3 : w0.cell? ⟨W.heap.size, 3, none⟩ = some (.int .u64 (rw' : Nat)) := row_cell g0 3 rfl
 have y4 : w0.cell? ⟨W.heap.size, 4, none⟩ = some (.bool ch) := row_cell g0 4 rfl
 have y5 : w0.cell? ⟨W.heap.size, 5, none⟩ = some (.int .i64 lv) := row_cell g0 5 rfl
 have y6 : w0.cell? ⟨W.heap.size, 6, none⟩ = some (.slice ha lh hc) := row_cell g0 6 rfl
 have y7 : w0.cell? ⟨W.heap.size, 7, none⟩ = some (.int .i64 ri) := row_cell g0 7 rfl
 have y8 : w0.cell? ⟨W.heap.size, 8, none⟩ = some (.slice ka lk kc) := row_cell g0 8 rfl
 have y9 : w0.cell? ⟨W.heap.size, 9, none⟩ = some (.slice va lw vc) := row_cell g0 9 rfl
 have y10 : w0.cell? ⟨W.heap.size, 10, none⟩ = some (.slice ca lc cc) := row_cell g0 10 rfl
 clear g0
 generalize s.id ra = id at *
 go_enter Tryz.func54, Tryz.ntmps54
 go_wp2_with fail
 rw [← HW.out]
 refine keep HID.out ?_
 go_wp2_with fail
 refine keep HPK.out ?_
 go_wp2_with fail
 go_region_held3 (fun W' => W'.cell? ⟨P, 0, none⟩ = some (.pointer (some ⟨AX, 0, none⟩)) ∧ W'.cell? ⟨P, 1, none⟩ = some (.pointer (some ⟨AY, 0, none⟩)) ∧ W'.cell? ⟨W.heap.size, 8, none⟩ = some (.slice ka lk kc) ∧ W'.cell? ⟨W.heap.size, 9, none⟩ = some (.slice va lw vc) ∧ W'.cell? ⟨W.heap.size, 10, none⟩ = some (.slice ca lc cc)) (go_keep) (first
  | (go_at_call 103; refine (CY.out w1 _ A1.out U1.out).mono ?_; rintro e w2 ⟨rfl, hA, hU⟩; have A2 := hide hA; have U2 := hide (U1.out.trans hU); obtain ⟨f0, f1⟩ := hA.cells; have t8 := row_cell (HCE.out w2 U2.out) 8 rfl; have t9 := row_cell (HCE.out w2 U2.out) 9 rfl; have t10 := row_cell (HCE.out w2 U2.out) 10 rfl; clear hA hU)
  | (go_at_call 48; refine (CX.out w0.drew (HA0.out.below (below_drew (Below.refl _ _))) (HU0.out.drew)).mono ?_; rintro e w1 ⟨rfl, hA, hU⟩; have A1 := hide hA; have U1 : Hid (Upd (fun k => ¬ K' k) w0 w1) := ((Upd.refl _ w0).drew).trans hU; obtain ⟨d0, d1⟩ := hA.cells; have u8 := row_cell (HCE.out w1 U1.out) 8 rfl; have u9 := row_cell (HCE.out w1 U1.out) 9 rfl; have u10 := row_cell (HCE.out w1 U1.out) 10 rfl; clear hA hU)
  | fail)
 have HF := hide (HEND.out w2 _ A2.out U2.out)
 clear HEND d0 d1 f0 f1
 go_wp2_with fail
 go_ret
 have := HF.out
 simpa using this
end
end Go.Proofs.YtpljbgcofmlhbaaGreat
namespace Go.Proofs.YtpljbgcofmlhbaaGreat
open Go.RowKit
set_option maxRecDepth 100000
section
variable {K : Nat → Prop} {W : World} {P AX AY : Nat} {s : AS}
set_option maxRecDepth 100000 in
set_option maxHeartbeats 3200000 in
theorem raw6 (h : AW K W P AX AY s s) (o : AOp) (ho : o.Ok K W) (hk : pickN o.kind 9 = 6) : Calls Tryz.prog 54 #[.pointer (some ⟨P, 0, none⟩), o.v] W (AwPost K W P AX AY (s.groS (s.id o.a) (s.id o.b))) := by
 obtain ⟨kd, ra, rb, rw', ch, n⟩ := o
 obtain ⟨⟨k1, k2⟩, ⟨a1, a2⟩, ⟨b1, b2⟩, w1, hn, hi⟩ := ho
 simp only at hk k1 k2 a1 a2 b1 b2 w1 hn hi
 simp only [AOp.v]
 have hid : s.id ra = ((pickN ra (s.sl.length + 2) : Nat) : Int) := rfl
 obtain ⟨w0, hw0⟩ : ∃ w0, w0 = W.alloc (.cells #[.int .i64 kd, .int .i64 ra, .int .i64 rb, .int .u64 (rw' : Nat), .bool ch, .int .i64 n.lv, n.hi.v, .int .i64 n.ri, n.ks.v, n.vs.v, n.cs.v] 125) := ⟨_, rfl⟩
 have b0 : Below W.heap.size W w0 := by rw [hw0]; exact (Below.refl _ _).alloc (Nat.le_refl _) _
 have z0 : w0.heap.size = W.heap.size + 1 := by rw [hw0]; simp
 have g0 : w0.heap[W.heap.size]? = some (.cells #[.int .i64 kd, .int .i64 ra, .int .i64 rb, .int .u64 (rw' : Nat), .bool ch, .int .i64 n.lv, n.hi.v, .int .i64 n.ri, n.ks.v, n.vs.v, n.cs.v] 125 (0, 0)) := by rw [hw0]; exact heap_alloc_new W _
 obtain ⟨K', hK'⟩ : ∃ K' : Nat → Prop, K' = fun k => K k ∨ k = W.heap.size := ⟨_, rfl⟩
 have hA0 : AW K' w0 P AX AY s s := h.more b0 (fun k hk => by rw [hK'] at hk; rcases hk with hk | hk; exact .inl hk; exact .inr (by omega)) (by rw [hK']; exact .inl h.kp)
 have hi0 : n.In K' := hi.mono (fun k hk => by rw [hK']; exact .inl hk)
 have kb : K' W.heap.size := by rw [hK']; exact .inr rfl
 have kk : ∀ k, K k → K' k := fun k hk => by rw [hK']; exact .inl hk
 have HEND : Hid (∀ w' u, AW K' w' P AX AY u u → Upd (fun k => ¬ K' k) w0 w' → AwPost K W P AX AY u (.returned (.bool true)) w') := fun w' u h1 h2 => ⟨rfl, h1.less kk h.kp, (kept_below b0).trans (kept_less h2 kk)⟩
 have HCE : Hid (∀ w', Upd (fun k => ¬ K' k) w0 w' → w'.heap[W.heap.size]? = some (.cells #[.int .i64 kd, .int .i64 ra, .int .i64 rb, .int .u64 (rw' : Nat), .bool ch, .int .i64 n.lv, n.hi.v, .int .i64 n.ri, n.ks.v, n.vs.v, n.cs.v] 125 (0, 0))) := fun w' hu => kept_heap hu g0 kb
 have HOK : Hid (∀ w', Upd (fun k => ¬ K' k) w0 w' → n.Ok w') := fun w' hu => (hn.below b0).kept hi0 hu
 have HIN := hide hi0
 have HU0 : Hid (Upd (fun k => ¬ K' k) w0 w0) := Upd.refl _ _
 have HID := hide (wid_any hA0 ra a1 a2)
 have HIDB := hide (wid_any hA0 rb b1 b2)
 have HPK := hide (pick_any kd 9 w0 (by decide) (by decide) k1 k2)
 rw [hk, show (((6 : Nat)) : Int) = 6 from rfl, show (((9 : Nat)) : Int) = 9 from rfl] at HPK
 have HLEN := hide hA0.len
 obtain ⟨c0, c1⟩ := hA0.cells
 rw [← hid] at HID
 have HA0 := hide hA0
 have HW := hide hw0
 clear h hn hi hK' hA0 hi0 kb kk b0 hw0 z0 k1 k2 hk hid
 rw [show ((pickN rb (s.sl.length + 2) : Nat) : Int) = s.id rb from rfl] at HIDB
 have GX := hide (HA0.out.X (fun F hp => px_grow hp (s.id ra) (s.id rb)))
 have GY : Hid (∀ w' u, AW K' w' P AX AY u s → Calls Tryz.prog 105 #[.pointer (some ⟨AY, 0, none⟩), .int .i64 (s.id ra), .int .i64 (s.id rb)] w' fun e w'' => e = .returned (.tuple #[.bool (s.groB (s.id ra) (s.id rb)), .int .i64 (s.wordE (s.id rb))]) ∧ AW K' w'' P AX AY u (s.groS (s.id ra) (s.id rb)) ∧ Upd (fun k => ¬ K' k) w' w'') := fun w' u hw => hw.Y (fun F hp => rx_grow hp (s.id ra) (s.id rb))
 obtain ⟨lv, ⟨ha, hc, hs⟩, ri, ⟨ka, kc, KL⟩, ⟨va, vc, V⟩, ⟨ca, cc, C⟩⟩ := n
 simp only [Tx.v, TL.v, IL.v] at *
 generalize hs.length = lh at *
 generalize KL.length = lk at *
 generalize V.length = lw at *
 generalize C.length = lc at *
 generalize s.groB (s.id ra) (s.id rb) = gb at *
 generalize s.wordE (s.id rb) = ge at *
 generalize s.groS (s.id ra) (s.id rb) = gs at *
 generalize s.id rb = idb at *
 have y0 : w0.cell? ⟨W.heap.size, 0, none⟩ = some (.int .i64 kd) := row_cell g0 0 rfl
 have y1 : w0.cell? ⟨W.heap.size, 1, none⟩ = some (.int .i64 ra) := row_cell g0 1 rfl
 have y2 : w0.cell? ⟨W.heap.size, 2, none⟩ = some (.int .i64 rb) := row_cell g0 2 rfl
 have y3 : w0.cell? ⟨W.heap.size, 3, none⟩ = some (.int .u64 (rw' : Nat)) := row_cell g0 3 rfl
 have y4 : w0.cell? ⟨W.heap.size, 4, none⟩ = some (.bool ch) := row_cell g0 4 rfl
 have y5 : w0.cell? ⟨W.heap.size, 5, none⟩ = some (.int .i64 lv) := row_cell g0 5 rfl
 have y6 : w0.cell? ⟨W.heap.size, 6, none⟩ = some (.slice ha lh hc) := row_cell g0 6 rfl
 have y7 : w0.cell? ⟨W.heap.size, 7, none⟩ = some (.int .i64 ri) := row_cell g0 7 rfl
 have y8 : w0.cell? ⟨W.heap.size, 8, none⟩ = some (.slice ka lk kc) := row_cell g0 8 rfl
 have y9 : w0.cell? ⟨W.heap.size, 9, none⟩ = some (.slice va lw vc) := row_cell g0 9 rfl
 have y10 : w0.cell? ⟨W.heap.size, 10, none⟩ = some (.slice ca lc cc) := row_cell g0 10 rfl
 clear g0
 generalize s.id ra = id at *
 go_enter Tryz.func54, Tryz.ntmps54
 go_wp2_with fail
 rw [← HW.out]
 refine keep HID.out ?_
 go_wp2_with fail
 refine keep HPK.out ?_
 go_wp2_with fail
 refine keep HIDB.out ?_
 go_wp2_with fail
 refine GX.out.mono ?_
 rintro e w1 ⟨rfl, hA, hU⟩
 obtain ⟨d0, d1⟩ := hA.cells
 have AY1 := hide (GY.out w1 _ hA)
 have U1 := hide hU
 clear hA hU c0 c1
 go_wp2_with fail
 refine AY1.out.mono ?_
 rintro e w2 ⟨rfl, hA, hU⟩
 have HF := hide (HEND.out w2 _ hA (U1.out.trans hU))
 clear hA hU HEND
 go_wp2_with fail
 go_ret
 have := HF.out
 simpa using this
set_option maxRecDepth 100000 in
set_option maxHeartbeats 3200000 in
theorem raw8 (h : AW K W P AX AY s s) (o : AOp) (ho : o.Ok K W) (hk : pickN o.kind 9 = 8) : Calls Tryz.prog 54 #[.pointer (some ⟨P, 0, none⟩), o.v] W (AwPost K W P AX AY (s.lockS (s.id o.a) o.w)) := by
 obtain ⟨kd, ra, rb, rw', ch, n⟩ := o
 obtain ⟨⟨k1, k2⟩, ⟨a1, a2⟩, ⟨b1, b2⟩, w1, hn, hi⟩ := ho
 simp only at hk k1 k2 a1 a2 b1 b2 w1 hn hi
 simp only [AOp.v]
 have hid : s.id ra = ((pickN ra (s.sl.length + 2) : Nat) : Int) := rfl
 obtain ⟨w0, hw0⟩ : ∃ w0, w0 = W.alloc (.cells #[.int .i64 kd, .int .i64 ra, .int .i64 rb, .int .u64 (rw' : Nat), .bool ch, .int .i64 n.lv, n.hi.v, .int .i64 n.ri, n.ks.v, n.vs.v, n.cs.v] 125) := ⟨_, rfl⟩
 have b0 : Below W.heap.size W w0 := by rw [hw0]; exact (Below.refl _ _).alloc (Nat.le_refl _) _
 have z0 : w0.heap.size = W.heap.size + 1 := by rw [hw0]; simp
 have g0 : w0.heap[W.heap.size]? = some (.cells #[.int .i64 kd, .int .i64 ra, .int .i64 rb, .int .u64 (rw' : Nat), .bool ch, .int .i64 n.lv, n.hi.v, .int .i64 n.ri, n.ks.v, n.vs.v, n.cs.v] 125 (0, 0)) := by rw [hw0]; exact heap_alloc_new W _
 obtain ⟨K', hK'⟩ : ∃ K' : Nat → Prop, K' = fun k => K k ∨ k = W.heap.size := ⟨_, rfl⟩
 have hA0 : AW K' w0 P AX AY s s := h.more b0 (fun k hk => by rw [hK'] at hk; rcases hk with hk | hk; exact .inl hk; exact .inr (by omega)) (by rw [hK']; exact .inl h.kp)
 have hi0 : n.In K' := hi.mono (fun k hk => by rw [hK']; exact .inl hk)
 have kb : K' W.heap.size := by rw [hK']; exact .inr rfl
 have kk : ∀ k, K k → K' k := fun k hk => by rw [hK']; exact .inl hk
 have HEND : Hid (∀ w' u, AW K' w' P AX AY u u → Upd (fun k => ¬ K' k) w0 w' → AwPost K W P AX AY u (.returned (.bool true)) w') := fun w' u h1 h2 => ⟨rfl, h1.less kk h.kp, (kept_below b0).trans (kept_less h2 kk)⟩
 have HCE : Hid (∀ w', Upd (fun k => ¬ K' k) w0 w' → w'.heap[W.heap.size]? = some (.cells #[.int .i64 kd, .int .i64 ra, .int .i64 rb, .int .u64 (rw' : Nat), .bool ch, .int .i64 n.lv, n.hi.v, .int .i64 n.ri, n.ks.v, n.vs.v, n.cs.v] 125 (0, 0))) := fun w' hu => kept_heap hu g0 kb
 have HOK : Hid (∀ w', Upd (fun k => ¬ K' k) w0 w' → n.Ok w') := fun w' hu => (hn.below b0).kept hi0 hu
 have HIN := hide hi0
 have HU0 : Hid (Upd (fun k => ¬ K' k) w0 w0) := Upd.refl _ _
 have HID := hide (wid_any hA0 ra a1 a2)
 have HIDB := hide (wid_any hA0 rb b1 b2)
 have HPK := hide (pick_any kd 9 w0 (by decide) (by decide) k1 k2)
 rw [hk, show (((8 : Nat)) : Int) = 8 from rfl, show (((9 : Nat)) : Int) = 9 from rfl] at HPK
 have HLEN := hide hA0.len
 obtain ⟨c0, c1⟩ := hA0.cells
 rw [← hid] at HID
 have HA0 := hide hA0
 have HW := hide hw0
 clear h hn hi hK' hA0 hi0 kb kk b0 hw0 z0 k1 k2 hk hid
 have LCK := hide (wlock_any HA0.out (s.id ra) rw' w1)
 obtain ⟨lv, ⟨ha, hc, hs⟩, ri, ⟨ka, kc, KL⟩, ⟨va, vc, V⟩, ⟨ca, cc, C⟩⟩ := n
 simp only [Tx.v, TL.v, IL.v] at *
 generalize hs.length = lh at *
 generalize KL.length = lk at *
 generalize V.length = lw at *
 generalize C.length = lc at *
 have y0 : w0.cell? ⟨W.heap.size, 0, none⟩ = some (.int .i64 kd) := row_cell g0 0 rfl
 have y1 : w0.cell? ⟨W.heap.size, 1, none⟩ = some (.int .i64 ra) := row_cell g0 1 rfl
 have y2 : w0.cell? ⟨W.heap.size, 2, none⟩ = some (.int .i64 rb) := row_cell g0 2 rfl
 have y3 : w0.cell? ⟨W.heap.size, 3, none⟩ = some (.int .u64 (rw' : Nat)) := row_cell g0 3 rfl
 have y4 : w0.cell? ⟨W.heap.size, 4, none⟩ = some (.bool ch) := row_cell g0 4 rfl
 have y5 : w0.cell? ⟨W.heap.size, 5, none⟩ = some (.int .i64 lv) := row_cell g0 5 rfl
 have y6 : w0.cell? ⟨W.heap.size, 6, none⟩ = some (.slice ha lh hc) := row_cell g0 6 rfl
 have y7 : w0.cell? ⟨W.heap.size, 7, none⟩ = some (.int .i64 ri) := row_cell g0 7 rfl
 have y8 : w0.cell? ⟨W.heap.size, 8, none⟩ = some (.slice ka lk kc) := row_cell g0 8 rfl
 have y9 : w0.cell? ⟨W.heap.size, 9, none⟩ = some (.slice va lw vc) := row_cell g0 9 rfl
 have y10 : w0.cell? ⟨W.heap.size, 10, none⟩ = some (.slice ca lc cc) := row_cell g0 10 rfl
 clear g0
 generalize s.id ra = id at *
 go_enter Tryz.func54, Tryz.ntmps54
 go_wp2_with fail
 rw [← HW.out]
 refine keep HID.out ?_
 go_wp2_with fail
 refine keep HPK.out ?_
 go_wp2_with fail
 refine LCK.out.mono ?_
 rintro e w2 ⟨rfl, hA, hU⟩
 have HF := hide (HEND.out w2 _ hA hU)
 clear hA hU HEND
 go_wp2_with fail
 go_ret
 exact HF.out
end
end Go.Proofs.YtpljbgcofmlhbaaGreat
namespace Go.Proofs.YtpljbgcofmlhbaaGreat
open Go.RowKit
set_option maxRecDepth 100000
section
variable {K : Nat → Prop} {W : World} {P AX AY : Nat} {s : AS}
set_option maxRecDepth 100000 in
set_option maxHeartbeats 3200000 in
theorem raw7 (h : AW K W P AX AY s s) (o : AOp) (ho : o.Ok K W) (hk : pickN o.kind 9 = 7) : Calls Tryz.prog 54 #[.pointer (some ⟨P, 0, none⟩), o.v] W (AwPost K W P AX AY (s.layS (1 + ((pickN o.a (s.sl.length + 1) : Nat) : Int)) o.n.p)) := by
 obtain ⟨kd, ra, rb, rw', ch, n⟩ := o
 obtain ⟨⟨k1, k2⟩, ⟨a1, a2⟩, ⟨b1, b2⟩, w1, hn, hi⟩ := ho
 simp only at hk k1 k2 a1 a2 b1 b2 w1 hn hi
 simp only [AOp.v]
 have hid : s.id ra = ((pickN ra (s.sl.length + 2) : Nat) : Int) := rfl
 obtain ⟨w0, hw0⟩ : ∃ w0, w0 = W.alloc (.cells #[.int .i64 kd, .int .i64 ra, .int .i64 rb, .int .u64 (rw' : Nat), .bool ch, .int .i64 n.lv, n.hi.v, .int .i64 n.ri, n.ks.v, n.vs.v, n.cs.v] 125) := ⟨_, rfl⟩
 have b0 : Below W.heap.size W w0 := by rw [hw0]; exact (Below.refl _ _).alloc (Nat.le_refl _) _
 have z0 : w0.heap.size = W.heap.size + 1 := by rw [hw0]; simp
 have g0 : w0.heap[W.heap.size]? = some (.cells #[.int .i64 kd, .int .i64 ra, .int .i64 rb, .int .u64 (rw' : Nat), .bool ch, .int .i64 n.lv, n.hi.v, .int .i64 n.ri, n.ks.v, n.vs.v, n.cs.v] 125 (0, 0)) := by rw [hw0]; exact heap_alloc_new W _
 obtain ⟨K', hK'⟩ : ∃ K' : Nat → Prop, K' = fun k => K k ∨ k = W.heap.size := ⟨_, rfl⟩
 have hA0 : AW K' w0 P AX AY s s := h.more b0 (fun k hk => by rw [hK'] at hk; rcases hk with hk | hk; exact .inl hk; exact .inr (by omega)) (by rw [hK']; exact .inl h.kp)
 have hi0 : n.In K' := hi.mono (fun k hk => by rw [hK']; exact .inl hk)
 have kb : K' W.heap.size := by rw [hK']; exact .inr rfl
 have kk : ∀ k, K k → K' k := fun k hk => by rw [hK']; exact .inl hk
 have HEND : Hid (∀ w' u, AW K' w' P AX AY u u → Upd (fun k => ¬ K' k) w0 w' → AwPost K W P AX AY u (.returned (.bool true)) w') := fun w' u h1 h2 => ⟨rfl, h1.less kk h.kp, (kept_below b0).trans (kept_less h2 kk)⟩
 have HCE : Hid (∀ w', Upd (fun k => ¬ K' k) w0 w' → w'.heap[W.heap.size]? = some (.cells #[.int .i64 kd, .int .i64 ra, .int .i64 rb, .int .u64 (rw' : Nat), .bool ch, .int .i64 n.lv, n.hi.v, .int .i64 n.ri, n.ks.v, n.vs.v, n.cs.v] 125 (0, 0))) := fun w' hu => kept_heap hu g0 kb
 have HOK : Hid (∀ w', Upd (fun k => ¬ K' k) w0 w' → n.Ok w') := fun w' hu => (hn.below b0).kept hi0 hu
 have HIN := hide hi0
 have HU0 : Hid (Upd (fun k => ¬ K' k) w0 w0) := Upd.refl _ _
 have HID := hide (wid_any hA0 ra a1 a2)
 have HIDB := hide (wid_any hA0 rb b1 b2)
 have HPK := hide (pick_any kd 9 w0 (by decide) (by decide) k1 k2)
 rw [hk, show (((7 : Nat)) : Int) = 7 from rfl, show (((9 : Nat)) : Int) = 9 from rfl] at HPK
 have HLEN := hide hA0.len
 obtain ⟨c0, c1⟩ := hA0.cells
 rw [← hid] at HID
 have HA0 := hide hA0
 have HW := hide hw0
 clear h hn hi hK' hA0 hi0 kb kk b0 hw0 z0 k1 k2 hk hid
 have hll := HLEN.out.1
 have UY : Hid (∀ w', AW K' w' P AX AY s s → Calls Tryz.prog 52 #[.pointer (some ⟨AY, 0, none⟩)] w' fun e w'' => e = .returned (.int .i64 (s.sl.length : Nat)) ∧ w'' = w') := fun w' hw => aw_usedY hw
 have PK : Hid (∀ w', Calls Tryz.prog 95 #[.int .i64 ra, .int .i64 ((s.sl.length : Int) + 1)] w' fun e w'' => e = .returned (.int .i64 (pickN ra (s.sl.length + 1) : Nat)) ∧ w'' = w') := fun w' => pick_any ra (s.sl.length + 1) w' (by omega) (by omega) a1 a2
 have hpl := pickN_lt ra (s.sl.length + 1) (by omega)
 have LAY : Hid (∀ w', AW K' w' P AX AY s s → Upd (fun k => ¬ K' k) w0 w' → Calls Tryz.prog 106 #[.pointer (some ⟨P, 0, none⟩), .int .i64 (1 + ((pickN ra (s.sl.length + 1) : Nat) : Int)), n.v] w' (AwPost K' w' P AX AY (s.layS (1 + ((pickN ra (s.sl.length + 1) : Nat) : Int)) n.p))) := fun w' hw hu => wlay_any hw _ n (HOK.out w' hu) HIN.out
 obtain ⟨lv, ⟨ha, hc, hs⟩, ri, ⟨ka, kc, KL⟩, ⟨va, vc, V⟩, ⟨ca, cc, C⟩⟩ := n
 simp only [Nd.v, Tx.v, TL.v, IL.v] at *
 generalize hs.length = lh at *
 generalize KL.length = lk at *
 generalize V.length = lw at *
 generalize C.length = lc at *
 generalize s.layS (1 + ((pickN ra (s.sl.length + 1) : Nat) : Int)) (Nd.p ⟨lv, ⟨ha, hc, hs⟩, ri, ⟨ka, kc, KL⟩, ⟨va, vc, V⟩, ⟨ca, cc, C⟩⟩) = ls at *
 generalize pickN ra (s.sl.length + 1) = pl at *
 generalize s.sl.length = ll at *
 have j1 : IntKind.i64.wrap ((ll : Int) + 1) = (ll : Int) + 1 := by rw [IntKind.wrap_i64]; omega
 have j2 : IntKind.i64.wrap (1 + (pl : Int)) = 1 + (pl : Int) := by rw [IntKind.wrap_i64]; omega
 have y0 : w0.cell? ⟨W.heap.size, 0, none⟩ = some (.int .i64 kd) := row_cell g0 0 rfl
 have y1 : w0.cell? ⟨W.heap.size, 1, none⟩ = some (.int .i64 ra) := row_cell g0 1 rfl
 have y2 : w0.cell? ⟨W.heap.size, 2, none⟩ = some (.int .i64 rb) := row_cell g0 2 rfl
 have y3 : w0.cell? ⟨W.heap.size, 3, none⟩ = some (.int .u64 (rw' : Nat)) := row_cell g0 3 rfl
 have y4 : w0.cell? ⟨W.heap.size, 4, none⟩ = some (.bool ch) := row_cell g0 4 rfl
 have y5 : w0.cell? ⟨W.heap.size, 5, none⟩ = some (.int .i64 lv) := row_cell g0 5 rfl
 have y6 : w0.cell? ⟨W.heap.size, 6, none⟩ = some (.slice ha lh hc) := row_cell g0 6 rfl
 have y7 : w0.cell? ⟨W.heap.size, 7, none⟩ = some (.int .i64 ri) := row_cell g0 7 rfl
 have y8 : w0.cell? ⟨W.heap.size, 8, none⟩ = some (.slice ka lk kc) := row_cell g0 8 rfl
 have y9 : w0.cell? ⟨W.heap.size, 9, none⟩ = some (.slice va lw vc) := row_cell g0 9 rfl
 have y10 : w0.cell? ⟨W.heap.size, 10, none⟩ = some (.slice ca lc cc) := row_cell g0 10 rfl
 clear g0
 generalize s.id ra = id at *
 go_enter Tryz.func54, Tryz.ntmps54
 go_wp2_with fail
 rw [← HW.out]
 refine keep HID.out ?_
 go_wp2_with fail
 refine keep HPK.out ?_
 go_wp2_with fail
 go_region_held3 (fun W' => W'.cell? ⟨P, 1, none⟩ = some (.pointer (some ⟨AY, 0, none⟩)) ∧ W'.cell? ⟨W.heap.size, 1, none⟩ = some (.int .i64 ra) ∧ W'.cell? ⟨W.heap.size, 5, none⟩ = some (.int .i64 lv) ∧ W'.cell? ⟨W.heap.size, 6, none⟩ = some (.slice ha lh hc) ∧ W'.cell? ⟨W.heap.size, 7, none⟩ = some (.int .i64 ri) ∧ W'.cell? ⟨W.heap.size, 8, none⟩ = some (.slice ka lk kc) ∧ W'.cell? ⟨W.heap.size, 9, none⟩ = some (.slice va lw vc) ∧ W'.cell? ⟨W.heap.size, 10, none⟩ = some (.slice ca lc cc)) (go_keep) (first
  | (go_at_call 106; refine (LAY.out w0.drew (HA0.out.below (below_drew (Below.refl _ _))) (HU0.out.drew)).mono ?_; rintro e w2 ⟨rfl, hA, hU⟩; have A2 := hide hA; have U2 : Hid (Upd (fun k => ¬ K' k) w0 w2) := ((Upd.refl _ w0).drew).trans hU; obtain ⟨f0, f1⟩ := hA.cells; have t1 := row_cell (HCE.out w2 U2.out) 1 rfl; have t5 := row_cell (HCE.out w2 U2.out) 5 rfl; have t6 := row_cell (HCE.out w2 U2.out) 6 rfl; have t7 := row_cell (HCE.out w2 U2.out) 7 rfl; have t8 := row_cell (HCE.out w2 U2.out) 8 rfl; have t9 := row_cell (HCE.out w2 U2.out) 9 rfl; have t10 := row_cell (HCE.out w2 U2.out) 10 rfl; clear hA hU)
  | (go_at_call 95; refine keep (PK.out w0.drew) ?_)
  | (go_at_call 52; refine keep (UY.out w0.drew (HA0.out.below (below_drew (Below.refl _ _)))) ?_)
  | fail)
 have HF := hide (HEND.out w2 _ A2.out U2.out)
 clear HEND f0 f1
 go_wp2_with fail
 go_ret
 exact HF.out
end
end Go.Proofs.YtpljbgcofmlhbaaGreat
namespace Go.Proofs.YtpljbgcofmlhbaaGreat
open Go.RowKit
set_option maxRecDepth 100000
theorem raw_any {K : Nat → Prop} {W : World} {P AX AY : Nat} {s : AS} (h : AW K W P AX AY s s) (o : AOp) (ho : o.Ok K W) : Calls Tryz.prog 54 #[.pointer (some ⟨P, 0, none⟩), o.v] W (AwPost K W P AX AY (s.raw o)) := by
 have hlt := pickN_lt o.kind 9 (by decide)
 unfold AS.raw
 by_cases h0 : pickN o.kind 9 = 0
 ·rw [if_pos h0]; exact raw0 h o ho h0
 rw [if_neg h0]
 by_cases h1 : pickN o.kind 9 = 1
 ·rw [if_pos h1]; exact raw1 h o ho h1
 rw [if_neg h1]
 by_cases h2 : pickN o.kind 9 = 2
 ·rw [if_pos h2]; exact raw2 h o ho h2
 rw [if_neg h2]
 by_cases h3 : pickN o.kind 9 = 3
 ·rw [if_pos h3]; exact raw3 h o ho h3
 rw [if_neg h3]
 by_cases h4 : pickN o.kind 9 = 4
 ·rw [if_pos h4]; exact raw4 h o ho h4
 rw [if_neg h4]
 by_cases h5 : pickN o.kind 9 = 5
 ·rw [if_pos h5]; exact raw5 h o ho h5
 rw [if_neg h5]
 by_cases h6 : pickN o.kind 9 = 6
 ·rw [if_pos h6]; exact raw6 h o ho h6
 rw [if_neg h6]
 by_cases h7 : pickN o.kind 9 = 7
 ·rw [if_pos h7]; exact raw7 h o ho h7
 rw [if_neg h7]
 exact raw8 h o ho (by omega)
structure Ops (K : Nat → Prop) (W : World) (a : Option Addr) (L : List AOp) : Prop where
 c : ∀ i (h : i < L.length), ∃ b o, a = some ⟨b, o, none⟩ ∧ K b ∧ ∀ j (v : Value), (match L[i].v with | .agg cs => cs | _ => #[])[j]? = some v → W.cell? ⟨b, o + i * 11 + j, none⟩ = some v
 ok : ∀ x ∈ L, x.Ok K W
theorem Ops.kept {K : Nat → Prop} {W W' : World} {a : Option Addr} {L : List AOp} (h : Ops K W a L) (hu : Upd (fun k => ¬ K k) W W') : Ops K W' a L := by
 refine ⟨fun i hi => ?_, fun x hx => (h.ok x hx).kept hu⟩
 obtain ⟨b, o, ha, hk, hc⟩ := h.c i hi
 exact ⟨b, o, ha, hk, fun j v hv => kept_cell hu (hc j v hv) hk⟩
theorem Ops.mono {K K' : Nat → Prop} {W : World} {a : Option Addr} {L : List AOp} (h : Ops K W a L) (hk : ∀ k, K k → K' k) : Ops K' W a L := by
 refine ⟨fun i hi => ?_, fun x hx => ?_⟩
 ·obtain ⟨b, o, ha, hb, hc⟩ := h.c i hi
  exact ⟨b, o, ha, hk b hb, hc⟩
 ·have := h.ok x hx
  exact ⟨this.k1, this.a1, this.b1, this.w1, this.n, this.i.mono hk⟩
def AS.run (s : AS) (L : List AOp) : AS := L.foldl AS.raw s
theorem AS.run_take (s : AS) (L : List AOp) (i : Nat) (h : i < L.length) : s.run (L.take (i + 1)) = (s.run (L.take i)).raw L[i] := by
 unfold AS.run
 rw [take_next h, List.foldl_append]
 rfl
end Go.Proofs.YtpljbgcofmlhbaaGreat
namespace Go.Proofs.YtpljbgcofmlhbaaGreat
open Go.RowKit
set_option maxRecDepth 100000
theorem AS.setw_len (s : AS) (id : Int) (x : Nat) : (s.setw id x).sl.length = s.sl.length := by simp [AS.setw]
theorem AS.setw_inn {s : AS} {id id' : Int} {x : Nat} (h : s.inn id) : (s.setw id' x).inn id := by unfold AS.inn at *; rw [AS.setw_len]; exact h
theorem AS.setw_w {s : AS} {id : Int} {x : Nat} (h : s.inn id) : (s.setw id x).w id = x := by
 obtain ⟨i, hi, _, e⟩ := AS.idx h
 unfold AS.w AS.setw
 simp only [e]
 rw [List.getD_eq_getElem?_getD, List.getElem?_set_self hi]
 rfl
theorem held_lock {s : AS} {id : Int} (ho : s.w id % 2 = 1) (x : Nat) : s.lockB id x = false ∧ s.lockS id x = s := by
 have hn : ¬ (s.inn id ∧ s.w id = x ∧ x % 2 = 0) := fun ⟨_, h1, h2⟩ => by omega
 exact ⟨decide_eq_false hn, if_neg hn⟩
theorem took_held {s : AS} {id : Int} (h : s.inn id) : (s.lockS id (s.w id)).inn id ∧ (s.lockS id (s.w id)).w id = (if s.w id % 2 = 0 then s.w id + 1 else s.w id) ∧ s.lockB id (s.w id) = decide (s.w id % 2 = 0) := by
 by_cases hx : s.w id % 2 = 0
 ·rw [show s.lockS id (s.w id) = s.setw id (s.w id + 1) from if_pos ⟨h, rfl, hx⟩, if_pos hx]
  exact ⟨AS.setw_inn h, AS.setw_w h, by unfold AS.lockB; rw [decide_eq_true ⟨h, rfl, hx⟩, decide_eq_true hx]⟩
 ·rw [show s.lockS id (s.w id) = s from if_neg (fun e => hx e.2.2), if_neg hx]
  exact ⟨h, rfl, by unfold AS.lockB; rw [decide_eq_false (fun e => hx e.2.2), decide_eq_false hx]⟩
theorem unl_held {s : AS} {id : Int} (h : s.inn id) (ho : s.w id % 2 = 1) (ch : Bool) : s.unlE id = 0 ∧ s.unlS id ch = s.setw id (freeW (s.w id) ch) := by
 have hE : s.unlE id = 0 := by unfold AS.unlE; rw [if_pos h, if_neg (by omega)]
 exact ⟨hE, if_pos hE⟩
theorem wordW_in {s : AS} {id : Int} (h : s.inn id) : s.wordW id = s.w id ∧ s.wordE id = 0 := ⟨if_pos h, if_pos h⟩
theorem freeW_even {y : Nat} (ho : y % 2 = 1) (ch : Bool) : freeW y ch % 2 = 0 := by
 unfold freeW
 cases ch
 ·simp; omega
 ·simp only [if_true]; omega
theorem free_back (x : Nat) (ch : Bool) : (decide (freeW (x + 1) ch = x)) = !ch := by
 unfold freeW
 cases ch
 ·simp
 ·simp only [if_true, Bool.not_true, decide_eq_false_iff_not]; omega
def AS.nth (s : AS) (c : Int) : Int := 1 + ((pickN c s.sl.length : Nat) : Int)
theorem AS.nth_in {s : AS} (c : Int) (h : 1 ≤ s.sl.length) : s.inn (s.nth c) := by
 have := pickN_lt c s.sl.length (by omega)
 unfold AS.inn AS.nth
 omega
end Go.Proofs.YtpljbgcofmlhbaaGreat
