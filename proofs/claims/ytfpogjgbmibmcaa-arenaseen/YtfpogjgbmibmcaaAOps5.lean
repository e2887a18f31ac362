/- arena: SetHead, SetBody. -/
import Derived.Test.YtfpogjgbmibmcaaAOps4
namespace Go.Proofs.Ytfpogjgbmibmcaa
open Go.RowKit

/-- A slot turns its head, or its body: post of the setters. -/
def SetPost (w : World) (A : Nat) (M D : Nat → Prop) (nodes root : Int) (L : List Sl) (i b x : Nat) (p : NP) (e : Ending) (w' : World) : Prop :=
  ∃ D' n, e = .returned (.int .i64 0) ∧ PA w' A M D' nodes root (L.set i ⟨b, x, n⟩) ∧ n.p = p ∧ (∀ k, D' k → D k ∨ w.heap.size ≤ k) ∧ Upd M w w'
def NP.setH (p : NP) (lv : Int) (hi : List Int) (ri : Int) : NP := ⟨lv, hi, ri, p.ks, p.vs, p.cs⟩
def NP.setB (p : NP) (ks vs : List (List Int)) (cs : List Int) : NP := ⟨p.lv, p.hi, p.ri, ks, vs, cs⟩
section
variable {W : World} {A : Nat} {M D : Nat → Prop} {nodes root : Int} {L : List Sl}

/-- The three cells of a head, or of a body, in a slot's block. -/
def slH (W : World) (b : Nat) (x0 x1 x2 : Value) : World := ((W.setCell ⟨b, 1, none⟩ x0).setCell ⟨b, 2, none⟩ x1).setCell ⟨b, 3, none⟩ x2
def slB (W : World) (b : Nat) (x0 x1 x2 : Value) : World := ((W.setCell ⟨b, 4, none⟩ x0).setCell ⟨b, 5, none⟩ x1).setCell ⟨b, 6, none⟩ x2
theorem slH_block {W : World} {b : Nat} {T : TypeId} {a0 a1 a2 a3 a4 a5 a6 : Value} (h : W.heap[b]? = some (.cells #[a0, a1, a2, a3, a4, a5, a6] T (0, 0))) (x0 x1 x2 : Value) : (slH W b x0 x1 x2).heap[b]? = some (.cells #[a0, x0, x1, x2, a4, a5, a6] T (0, 0)) := by
  have := block_setCell (block_setCell (block_setCell h 1 x0) 2 x1) 3 x2
  exact this
theorem slB_block {W : World} {b : Nat} {T : TypeId} {a0 a1 a2 a3 a4 a5 a6 : Value} (h : W.heap[b]? = some (.cells #[a0, a1, a2, a3, a4, a5, a6] T (0, 0))) (x0 x1 x2 : Value) : (slB W b x0 x1 x2).heap[b]? = some (.cells #[a0, a1, a2, a3, x0, x1, x2] T (0, 0)) := by
  have := block_setCell (block_setCell (block_setCell h 4 x0) 5 x1) 6 x2
  exact this
theorem slH_upd (S : Nat → Prop) (W : World) (b : Nat) (x0 x1 x2 : Value) (h : S b) : Upd S W (slH W b x0 x1 x2) :=
  (((Upd.refl S W).setCell _ _ (fun _ => h)).setCell _ _ (fun _ => h)).setCell _ _ (fun _ => h)
theorem slB_upd (S : Nat → Prop) (W : World) (b : Nat) (x0 x1 x2 : Value) (h : S b) : Upd S W (slB W b x0 x1 x2) :=
  (((Upd.refl S W).setCell _ _ (fun _ => h)).setCell _ _ (fun _ => h)).setCell _ _ (fun _ => h)

set_option maxHeartbeats 800000 in
theorem setHead_not (h : PA W A M D nodes root L) (id lv ri : Int) (t : Tx) (hno : ∀ i (hi : i < L.length), id = (i : Int) + 1 → L[i].w % 2 = 0) :
    Calls Try.prog 23 #[.pointer (some ⟨A, 0, none⟩), .int .i64 id, .agg #[.int .i64 lv, t.v, .int .i64 ri]] W fun e w' => e = .returned (.int .i64 (opE L id)) ∧ Below W.heap.size W w' := by
  have hne : opE L id ≠ 0 := by unfold opE; split <;> decide
  obtain ⟨ha, hc, hs⟩ := t
  simp only [Tx.v]
  obtain ⟨w0, hw0⟩ : ∃ w0, w0 = W.alloc (.cells #[.int .i64 lv, .slice ha hs.length hc, .int .i64 ri] 31) := ⟨_, rfl⟩
  have b0 : Below W.heap.size W w0 := by rw [hw0]; exact (Below.refl _ _).alloc (Nat.le_refl _) _
  have HO := hide (open_not (h.below b0) id hno)
  have B0 := hide b0
  have HW := hide hw0
  clear h hno b0 hw0
  generalize opE L id = er at *
  generalize hs.length = lh at *
  go_enter Try.func23, Try.ntmps23
  go_wp2_with fail
  rw [← HW.out]
  refine keep HO.out ?_
  go_wp2_with fail
  go_ret
  exact ⟨rfl, B0.out⟩
set_option maxHeartbeats 800000 in
theorem setBody_not (h : PA W A M D nodes root L) (id : Int) (k v : TL) (c : IL) (hno : ∀ i (hi : i < L.length), id = (i : Int) + 1 → L[i].w % 2 = 0) :
    Calls Try.prog 24 #[.pointer (some ⟨A, 0, none⟩), .int .i64 id, .agg #[k.v, v.v, c.v]] W fun e w' => e = .returned (.int .i64 (opE L id)) ∧ Below W.heap.size W w' := by
  have hne : opE L id ≠ 0 := by unfold opE; split <;> decide
  obtain ⟨ka, kc, K⟩ := k
  obtain ⟨va, vc, V⟩ := v
  obtain ⟨ca, cc, C⟩ := c
  simp only [TL.v, IL.v]
  obtain ⟨w0, hw0⟩ : ∃ w0, w0 = W.alloc (.cells #[.slice ka K.length kc, .slice va V.length vc, .slice ca C.length cc] 35) := ⟨_, rfl⟩
  have b0 : Below W.heap.size W w0 := by rw [hw0]; exact (Below.refl _ _).alloc (Nat.le_refl _) _
  have HO := hide (open_not (h.below b0) id hno)
  have B0 := hide b0
  have HW := hide hw0
  clear h hno b0 hw0
  generalize opE L id = er at *
  generalize K.length = lk at *
  generalize V.length = lw at *
  generalize C.length = lc at *
  go_enter Try.func24, Try.ntmps24
  go_wp2_with fail
  rw [← HW.out]
  refine keep HO.out ?_
  go_wp2_with fail
  go_ret
  exact ⟨rfl, B0.out⟩

set_option maxRecDepth 100000 in
set_option maxHeartbeats 1600000 in
theorem setHead_any (h : PA W A M D nodes root L) (i : Nat) (hi : i < L.length) (he : L[i].w % 2 = 1) (lv ri : Int) (t : Tx) (ht : t.Ok W) :
    Calls Try.prog 23 #[.pointer (some ⟨A, 0, none⟩), .int .i64 ((i : Int) + 1), .agg #[.int .i64 lv, t.v, .int .i64 ri]] W (SetPost W A M D nodes root L i L[i].b L[i].w (L[i].n.p.setH lv t.s ri)) := by
  obtain ⟨w0, hw0⟩ : ∃ w0, w0 = W.alloc (.cells #[.int .i64 lv, t.v, .int .i64 ri] 31) := ⟨_, rfl⟩
  have b0 : Below W.heap.size W w0 := by rw [hw0]; exact (Below.refl _ _).alloc (Nat.le_refl _) _
  have g0 : w0.heap[W.heap.size]? = some (.cells #[.int .i64 lv, t.v, .int .i64 ri] 31 (0, 0)) := by rw [hw0]; exact heap_alloc_new W _
  have z0 : w0.heap.size = W.heap.size + 1 := by rw [hw0]; simp
  have HO := hide (open_any (h.below b0) i hi he)
  have HCH := hide (copyHead_any lv ri t w0 (ht.below b0))
  have H0 := hide (h.below b0)
  have hbl := h.lt L[i].b (.inl (h.sl L[i] (List.getElem_mem hi)).m)
  have HSL : Hid (∀ w2, Below w0.heap.size w0 w2 → (w2.heap[L[i].b]? = some (.cells L[i].cells 94 (0, 0)))) := fun w2 hb => ((h.below b0).below hb).sl L[i] (List.getElem_mem hi) |>.c
  have HSC : Hid (L[i].cells = #[.int .u64 (L[i].w : Nat), .int .i64 L[i].n.lv, L[i].n.hi.v, .int .i64 L[i].n.ri, L[i].n.ks.v, L[i].n.vs.v, L[i].n.cs.v]) := rfl
  rw [HSC.out] at HSL
  have HB8 := hide (And.intro ht.b8 ht.z)
  have HP := hide h
  have HI := hide hi
  -- the end
  have HFIN : Hid (∀ w2 na nc, Below w0.heap.size w0 w2 → OwnB w2 w0.heap.size 5 (.slice na t.s.length nc) t.s → SetPost W A M D nodes root L i L[i].b L[i].w (L[i].n.p.setH lv t.s ri) (.returned (.int .i64 0)) (slH w2 L[i].b (.int .i64 lv) (.slice na t.s.length nc) (.int .i64 ri))) := by
    intro w2 na nc hb hv
    have hU : Upd (fun k => k = L[i].b) w2 (slH w2 L[i].b (.int .i64 lv) (.slice na t.s.length nc) (.int .i64 ri)) := slH_upd _ _ _ _ _ _ rfl
    have bel := b0.trans (hb.mono b0.size)
    have P2 := h.below bel
    have ho := P2.sl L[i] (List.getElem_mem hi)
    have hcc := slH_block (HSL.out w2 hb) (.int .i64 lv) (.slice na t.s.length nc) (.int .i64 ri)
    have hv' : OwnB (slH w2 L[i].b (.int .i64 lv) (.slice na t.s.length nc) (.int .i64 ri)) w0.heap.size 5 (.slice na t.s.length nc) t.s := ownB_upd' hv hU (fun b h1 h2 h3 => by omega)
    generalize slH w2 L[i].b (.int .i64 lv) (.slice na t.s.length nc) (.int .i64 ri) = w6 at *
    have hin := ownB_in (x := ⟨na, nc, t.s⟩) hv'
    have hn : L[i].n.Ok w6 := ho.n.upd ho.d hU (fun k hk e => P2.dj _ ho.m (by rw [← e]; exact hk))
    refine ⟨fun k => D k ∨ (w0.heap.size ≤ k ∧ k < w6.heap.size), ⟨lv, ⟨na, nc, t.s⟩, ri, L[i].n.ks, L[i].n.vs, L[i].n.cs⟩, rfl, ?_, rfl, ?_, ?_⟩
    · refine P2.put hi ⟨L[i].b, L[i].w, ⟨lv, ⟨na, nc, t.s⟩, ri, L[i].n.ks, L[i].n.vs, L[i].n.cs⟩⟩ rfl hU (fun k hk => .inl hk) ?_ ?_ ⟨hcc, ho.m, ⟨ownB_ok (x := ⟨na, nc, t.s⟩) hv' HB8.out.1 HB8.out.2, hn.k, hn.v, hn.c, hn.kz, hn.vz, hn.cz⟩, ?_, ho.w⟩
      · intro k hk
        rcases hk with hk | hk
        · exact Nat.lt_of_lt_of_le (P2.lt k (.inr hk)) hU.size
        · exact hk.2
      · intro k hk hd
        rcases hd with hd | hd
        · exact P2.dj k hk hd
        · have := h.lt k (.inl hk); omega
      · exact ⟨fun x e _ => .inr (hin x e), fun x e l => .inl (ho.d.k x e l), fun y hy x e l => .inl (ho.d.ke y hy x e l), fun x e l => .inl (ho.d.v x e l), fun y hy x e l => .inl (ho.d.ve y hy x e l), fun x e l => .inl (ho.d.c x e l)⟩
    · intro k hk
      rcases hk with hk | hk
      · exact .inl hk
      · right; omega
    · exact (Upd.of_below bel M).then hU (fun k _ e => by rw [e]; exact ho.m)
  obtain ⟨ha, hc, hs⟩ := t
  simp only [Tx.v] at *
  generalize SetPost W A M D nodes root L i L[i].b L[i].w (L[i].n.p.setH lv hs ri) = PO at *
  generalize L[i].b = b at *
  obtain ⟨lh, hlh⟩ : ∃ lh, hs.length = lh := ⟨_, rfl⟩
  rw [hlh] at HCH HFIN g0 hw0 ⊢
  generalize L[i].n = nd at *
  generalize L[i].w = xx at *
  clear hlh h he ht HSC HB8 H0 HP HI
  generalize (i : Int) + 1 = id at *
  have G0 := hide (Tri.of g0)
  have B0 := hide b0
  have HW := hide hw0
  have Z0 := hide z0
  clear g0 b0 hw0 z0
  go_enter Try.func23, Try.ntmps23
  go_wp2_with fail
  rw [← HW.out]
  refine keep HO.out ?_
  obtain ⟨t0, t1, t2⟩ := G0.out
  go_wp2_with fail
  refine HCH.out.mono ?_
  rintro e w2 ⟨na, nc, rfl, hv2, hb2⟩
  have g2 := HSL.out w2 hb2
  have F2 := fun j => frozen_of g2 j
  have q1 : w2.cell? ⟨b, 1, none⟩ = some (.int .i64 nd.lv) := by rw [cell_of_row _ _ _ _ _ _ g2]; rfl
  have q2 : w2.cell? ⟨b, 2, none⟩ = some nd.hi.v := by rw [cell_of_row _ _ _ _ _ _ g2]; rfl
  have q3 : w2.cell? ⟨b, 3, none⟩ = some (.int .i64 nd.ri) := by rw [cell_of_row _ _ _ _ _ _ g2]; rfl
  have HF := hide (HFIN.out w2 na nc hb2 hv2)
  clear hv2 hb2 HCH HFIN g2 HSL
  go_wp2_with fail
  exact HF.out
set_option maxRecDepth 100000 in
set_option maxHeartbeats 1600000 in
theorem setBody_any (h : PA W A M D nodes root L) (i : Nat) (hi : i < L.length) (he : L[i].w % 2 = 1) (k v : TL) (c : IL) (hk : k.Ok W) (hv : v.Ok W) (hc : c.Ok W) (kz : k.L.length * 24 ≤ 140737488352000) (vz : v.L.length * 24 ≤ 140737488352000) (cz : c.s.length * 8 ≤ 140737488352000) :
    Calls Try.prog 24 #[.pointer (some ⟨A, 0, none⟩), .int .i64 ((i : Int) + 1), .agg #[k.v, v.v, c.v]] W (SetPost W A M D nodes root L i L[i].b L[i].w (L[i].n.p.setB k.p v.p c.s)) := by
  obtain ⟨w0, hw0⟩ : ∃ w0, w0 = W.alloc (.cells #[k.v, v.v, c.v] 35) := ⟨_, rfl⟩
  have b0 : Below W.heap.size W w0 := by rw [hw0]; exact (Below.refl _ _).alloc (Nat.le_refl _) _
  have g0 : w0.heap[W.heap.size]? = some (.cells #[k.v, v.v, c.v] 35 (0, 0)) := by rw [hw0]; exact heap_alloc_new W _
  have z0 : w0.heap.size = W.heap.size + 1 := by rw [hw0]; simp
  have HO := hide (open_any (h.below b0) i hi he)
  have HCH := hide (copyBody_any k v c w0 (hk.below b0) (hv.below b0) (hc.below b0) kz vz cz)
  have hbl := h.lt L[i].b (.inl (h.sl L[i] (List.getElem_mem hi)).m)
  have HSL : Hid (∀ w2, Below w0.heap.size w0 w2 → (w2.heap[L[i].b]? = some (.cells L[i].cells 94 (0, 0)))) := fun w2 hb => ((h.below b0).below hb).sl L[i] (List.getElem_mem hi) |>.c
  have HSC : Hid (L[i].cells = #[.int .u64 (L[i].w : Nat), .int .i64 L[i].n.lv, L[i].n.hi.v, .int .i64 L[i].n.ri, L[i].n.ks.v, L[i].n.vs.v, L[i].n.cs.v]) := rfl
  rw [HSC.out] at HSL
  -- the end
  have HFIN : Hid (∀ w2 kn kd K' vn vd V' cn cd, Below w0.heap.size w0 w2 → K'.map (·.s) = k.L.map (·.s) → V'.map (·.s) = v.L.map (·.s) → K'.length = k.L.length → V'.length = v.L.length → (⟨kn, kd, K'⟩ : TL).Own w2 w0.heap.size → (⟨vn, vd, V'⟩ : TL).Own w2 w0.heap.size → w2.ownsRow w0.heap.size 3 1 (.slice cn c.s.length cd) c.s.length (c.s.map (Value.int .i64)) →
      SetPost W A M D nodes root L i L[i].b L[i].w (L[i].n.p.setB k.p v.p c.s) (.returned (.int .i64 0)) (slB w2 L[i].b (.slice kn k.L.length kd) (.slice vn v.L.length vd) (.slice cn c.s.length cd))) := by
    intro w2 kn kd K' vn vd V' cn cd hb p1 p2 l1 l2 o1 o2 o3
    have hU : Upd (fun k => k = L[i].b) w2 (slB w2 L[i].b (.slice kn k.L.length kd) (.slice vn v.L.length vd) (.slice cn c.s.length cd)) := slB_upd _ _ _ _ _ _ rfl
    have bel := b0.trans (hb.mono b0.size)
    have P2 := h.below bel
    have ho := P2.sl L[i] (List.getElem_mem hi)
    have hcc := slB_block (HSL.out w2 hb) (.slice kn k.L.length kd) (.slice vn v.L.length vd) (.slice cn c.s.length cd)
    have q1 := o1.upd hU (fun b h1 h2 h3 => by omega)
    have q2 := o2.upd hU (fun b h1 h2 h3 => by omega)
    have q3 := ownsI_upd o3 hU (fun b h1 h2 h3 => by omega)
    generalize slB w2 L[i].b (.slice kn k.L.length kd) (.slice vn v.L.length vd) (.slice cn c.s.length cd) = w6 at *
    have hn : L[i].n.Ok w6 := ho.n.upd ho.d hU (fun k hk e => P2.dj _ ho.m (by rw [← e]; exact hk))
    obtain ⟨m, hm⟩ : ∃ m : Nd, m = ⟨L[i].n.lv, L[i].n.hi, L[i].n.ri, ⟨kn, kd, K'⟩, ⟨vn, vd, V'⟩, ⟨cn, cd, c.s⟩⟩ := ⟨_, rfl⟩
    refine ⟨fun k => D k ∨ (w0.heap.size ≤ k ∧ k < w6.heap.size), m, rfl, ?_, ?_, ?_, ?_⟩
    · rw [hm]
      refine P2.put hi ⟨L[i].b, L[i].w, ⟨L[i].n.lv, L[i].n.hi, L[i].n.ri, ⟨kn, kd, K'⟩, ⟨vn, vd, V'⟩, ⟨cn, cd, c.s⟩⟩⟩ rfl hU (fun k hk => .inl hk) ?_ ?_ ⟨?_, ho.m, ⟨hn.h, q1.ok, q2.ok, il_of_owns (t := ⟨cn, cd, c.s⟩) q3, ?_, ?_, cz⟩, ?_, ho.w⟩
      · intro k hk
        rcases hk with hk | hk
        · exact Nat.lt_of_lt_of_le (P2.lt k (.inr hk)) hU.size
        · exact hk.2
      · intro k hk hd
        rcases hd with hd | hd
        · exact P2.dj k hk hd
        · have := h.lt k (.inl hk); omega
      · rw [hcc]
        simp only [Sl.cells, TL.v, IL.v, l1, l2]
      · simp only [l1]; exact kz
      · simp only [l2]; exact vz
      · exact ⟨fun x e l => .inl (ho.d.h x e l), fun x e _ => .inr (owns_in q1.row x e), fun y hy x e _ => .inr (ownB_in (q1.each y hy) x e), fun x e _ => .inr (owns_in q2.row x e), fun y hy x e _ => .inr (ownB_in (q2.each y hy) x e), fun x e _ => .inr (owns_in q3 x e)⟩
    · rw [hm]
      simp only [Nd.p, NP.setB, TL.p, p1, p2]
    · intro k hk
      rcases hk with hk | hk
      · exact .inl hk
      · right; omega
    · exact (Upd.of_below bel M).then hU (fun k _ e => by rw [e]; exact ho.m)
  obtain ⟨ka, kc, K⟩ := k
  obtain ⟨va, vc, V⟩ := v
  obtain ⟨ca, cc, C⟩ := c
  simp only [TL.v, IL.v] at *
  generalize SetPost W A M D nodes root L i L[i].b L[i].w (L[i].n.p.setB (TL.p ⟨ka, kc, K⟩) (TL.p ⟨va, vc, V⟩) C) = PO at *
  generalize L[i].b = b at *
  obtain ⟨lk, hlk⟩ : ∃ lk, K.length = lk := ⟨_, rfl⟩
  obtain ⟨lw, hlw⟩ : ∃ lw, V.length = lw := ⟨_, rfl⟩
  obtain ⟨lc, hlc⟩ : ∃ lc, C.length = lc := ⟨_, rfl⟩
  simp only [hlk, hlw, hlc] at HCH HFIN g0 hw0 ⊢
  generalize L[i].n = nd at *
  generalize L[i].w = xx at *
  clear h he hk hv hc kz vz cz HSC hlk hlw hlc
  generalize (i : Int) + 1 = id at *
  have G0 := hide (Tri.of g0)
  have B0 := hide b0
  have HW := hide hw0
  have Z0 := hide z0
  clear g0 b0 hw0 z0
  go_enter Try.func24, Try.ntmps24
  go_wp2_with fail
  rw [← HW.out]
  refine keep HO.out ?_
  obtain ⟨t0, t1, t2⟩ := G0.out
  go_wp2_with fail
  refine HCH.out.mono ?_
  rintro e w2 ⟨kn, kd, K', vn, vd, V', cn, cd, rfl, p1, p2, l1, l2, o1, o2, o3, hb2⟩
  have g2 := HSL.out w2 hb2
  have F2 := fun j => frozen_of g2 j
  have q1 : w2.cell? ⟨b, 4, none⟩ = some nd.ks.v := by rw [cell_of_row _ _ _ _ _ _ g2]; rfl
  have q2 : w2.cell? ⟨b, 5, none⟩ = some nd.vs.v := by rw [cell_of_row _ _ _ _ _ _ g2]; rfl
  have q3 : w2.cell? ⟨b, 6, none⟩ = some nd.cs.v := by rw [cell_of_row _ _ _ _ _ _ g2]; rfl
  have HF := hide (HFIN.out w2 kn kd K' vn vd V' cn cd hb2 p1 p2 l1 l2 o1 o2 o3)
  clear p1 p2 l1 l2 o1 o2 o3 hb2 HCH HFIN g2 HSL
  go_wp2_with fail
  exact HF.out
end

end Go.Proofs.Ytfpogjgbmibmcaa
