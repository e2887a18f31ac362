/- The document's sink of any behaviour. -/
import Derived.Test.YtcffekhlnidjnaaOZ
namespace Go.Proofs.Ytcffekhlnidjnaa
open Go.RowKit

def mkS (vn ve u : Value) (c : Nat) (vs : Value) : Array Value := #[.slice none 0 0, .int .i64 0, .int .i64 (c : Int), u, .bool true, vn, ve, vs]
theorem mkS_cells {W : World} {g : Nat} {vn ve u vs : Value} {c : Nat} (h : W.heap[g]? = some (.cells (mkS vn ve u c vs) 51 (0, 0))) : W.cell? ⟨g, 2, none⟩ = some (.int .i64 (c : Int)) ∧ W.cell? ⟨g, 3, none⟩ = some u ∧ W.cell? ⟨g, 4, none⟩ = some (.bool true) ∧ W.cell? ⟨g, 5, none⟩ = some vn ∧ W.cell? ⟨g, 6, none⟩ = some ve ∧ W.cell? ⟨g, 7, none⟩ = some vs ∧ ∀ j, W.frozen? ⟨g, j, none⟩ = false := by
  refine ⟨?_, ?_, ?_, ?_, ?_, ?_, fun j => frozen_blk h j⟩ <;> (rw [cell_of_row _ _ _ _ _ _ h]; rfl)

/-- A writer's block, its sizes and what it took. -/
structure IsOT (mk : Value → Nat → Value → Array Value) (ty : TypeId) (W : World) (B : Nat) (M : Nat → Prop) (an : Option Addr) (ns : List Int) (ae : Option Addr) (es : List Int) (g : Nat) (t : OWt) (ax : Option Addr) (cx : Nat) (ay : Option Addr) (cy : Nat) : Prop where
  z : IsZ (mk (.slice ay t.took.length cy)) ty W B an ns ae es g t.c t.szs ax cx
  own : W.ownsRow B 5 1 (.slice ay t.took.length cy) t.took.length (t.took.map (Value.int .u8))
  ng : (Value.slice ay t.took.length cy).ownBlock ≠ some g
  nx : ∀ i, (Value.slice ay t.took.length cy).ownBlock = some i → (Value.slice ax t.szs.length cx).ownBlock ≠ some i
  m : ∀ i, M i ↔ i = g ∨ (Value.slice ax t.szs.length cx).ownBlock = some i ∨ (Value.slice ay t.took.length cy).ownBlock = some i
def TAt (mk : Value → Nat → Value → Array Value) (ty : TypeId) (an : Option Addr) (ns : List Int) (ae : Option Addr) (es : List Int) (g B : Nat) (W : World) (t : OWt) (M : Nat → Prop) : Prop := ∃ ax cx ay cy, IsOT mk ty W B M an ns ae es g t ax cx ay cy
theorem TAt.upd {mk : Value → Nat → Value → Array Value} {ty : TypeId} {an : Option Addr} {ns : List Int} {ae : Option Addr} {es : List Int} {g B : Nat} {W W' : World} {t : OWt} {M S : Nat → Prop} (h : TAt mk ty an ns ae es g B W t M) (hu : Upd S W W') (hs : ∀ i, S i → B ≤ i ∧ ¬ M i) : TAt mk ty an ns ae es g B W' t M := by
  obtain ⟨ax, cx, ay, cy, h⟩ := h
  exact ⟨ax, cx, ay, cy, h.z.upd hu (fun i e => ⟨(hs i e).1, fun e' => (hs i e).2 ((h.m i).2 (.inl e')), fun e' => (hs i e).2 ((h.m i).2 (.inr (.inl e')))⟩), owns_upd h.own hu (fun i hi e => (hs i e).2 ((h.m i).2 (.inr (.inr hi)))), h.ng, h.nx, h.m⟩
theorem TAt.lt {mk : Value → Nat → Value → Array Value} {ty : TypeId} {an : Option Addr} {ns : List Int} {ae : Option Addr} {es : List Int} {g B : Nat} {W : World} {t : OWt} {M : Nat → Prop} (h : TAt mk ty an ns ae es g B W t M) : ∀ i, M i → B ≤ i ∧ i < W.heap.size := by
  obtain ⟨ax, cx, ay, cy, h⟩ := h
  intro i hi
  rcases (h.m i).1 hi with rfl | e | e
  · exact ⟨h.z.gb, lt_of_block h.z.blk⟩
  · exact h.z.own.lt i e
  · exact h.own.lt i e

def OWPost (mk : Value → Nat → Value → Array Value) (ty : TypeId) (an : Option Addr) (ns : List Int) (ae : Option Addr) (es : List Int) (g B : Nat) (M : Nat → Prop) (t : OWt) (ys : List Int) (W : World) (e : Ending) (W' : World) : Prop :=
  ∃ M', e = .returned (.tuple #[.int .i64 (oWf ns es t ys).1, .int .i64 (oWf ns es t ys).2.1]) ∧ TAt mk ty an ns ae es g B W' (oWf ns es t ys).2.2 M' ∧ Upd M W W' ∧ ∀ i, M' i → M i ∨ W.heap.size ≤ i

/-- Behind the sizes: what is taken is laid behind what was. -/
theorem t_end {mk : Value → Nat → Value → Array Value} {ty : TypeId} {an : Option Addr} {ns : List Int} {ae : Option Addr} {es : List Int} {g B it : Nat} {M : Nat → Prop} {t : OWt} {W w5 : World} {ax ay : Option Addr} {cx cy g4 c4 l : Nat} (ys : List Int) (h : IsOT mk ty W B M an ns ae es g t ax cx ay cy) (hmk : ∀ u v c vs, (mk u c vs).setIfInBounds it v = mk v c vs) (hl : l = t.szs.length)
    (hz : IsZ (mk (.slice ay t.took.length cy)) ty w5 B an ns ae es g (t.c + 1) (t.szs ++ [(ys.length : Int)]) (some ⟨g4, 0, none⟩) c4) (hu : Upd (fun i => i = g ∨ (Value.slice ax l cx).ownBlock = some i) W w5) (h4 : (Value.slice ax l cx).ownBlock = some g4 ∨ W.heap.size ≤ g4) :
    w5.ownsRow B 5 1 (.slice ay t.took.length cy) t.took.length (t.took.map (Value.int .u8)) ∧ B ≤ w5.heap.size ∧ Upd M W w5 ∧
    ∀ V v6 w6 av cv, Still w5 V → v6 = Value.slice av (oWf ns es t ys).2.2.took.length cv → w6.ownsRow B 5 1 v6 (oWf ns es t ys).2.2.took.length ((oWf ns es t ys).2.2.took.map (Value.int .u8)) → V.grownBy w6 (Value.slice ay t.took.length cy).ownBlock → (∀ k, v6.ownBlock = some k → (Value.slice ay t.took.length cy).ownBlock = some k ∨ V.heap.size ≤ k) →
      w6.heap[g]? = some (.cells (mk (.slice ay t.took.length cy) (t.c + 1) (.slice (some ⟨g4, 0, none⟩) (l + 1) c4)) ty (0, 0)) ∧ OWPost mk ty an ns ae es g B M t ys W (.returned (.tuple #[.int .i64 (toldE ns es (t.c + 1) (ys.length : Int) 0).1, .int .i64 (toldE ns es (t.c + 1) (ys.length : Int) 0).2])) (w6.setCell ⟨g, it, none⟩ v6) := by
  subst hl
  have hzs := hu.size
  have hgl := lt_of_block h.z.blk
  have hot : w5.ownsRow B 5 1 (.slice ay t.took.length cy) t.took.length (t.took.map (Value.int .u8)) := owns_upd h.own hu (fun i hi e => e.elim (fun e => h.ng (e ▸ hi)) (fun e => h.nx i hi e))
  have hB := h.z.gb
  have hMW : Upd M W w5 := hu.mono (fun i _ e => (h.m i).2 (e.elim .inl (fun e => .inr (.inl e))))
  have ul : (t.szs ++ [(ys.length : Int)]).length = t.szs.length + 1 := by rw [List.length_append]; rfl
  refine ⟨hot, by omega, hMW, fun V v6 w6 av cv hV hv6 ho6 hg6 hk6 => ?_⟩
  subst hv6
  have hVs : V.heap.size = w5.heap.size := by rw [hV.heap]
  have hu6 : Upd (fun i => (Value.slice ay t.took.length cy).ownBlock = some i) w5 w6 := (hV.upd _).trans (Upd.of_grown hg6 (fun k hk _ => hk))
  have hu7 : Upd (fun i => i = g) w6 (w6.setCell ⟨g, it, none⟩ (Value.slice av (oWf ns es t ys).2.2.took.length cv)) := (Upd.refl _ _).set1 it _
  have hb6 := hu6.heap hz.blk (fun e => h.ng e)
  have hg4 : ∀ i, (Value.slice ay t.took.length cy).ownBlock = some i → i ≠ g4 := fun i hi e => h4.elim (fun e' => h.nx i hi (e ▸ e')) (fun e' => by have := (h.own.lt i hi).2; omega)
  have newg : ∀ i, (Value.slice av (oWf ns es t ys).2.2.took.length cv).ownBlock = some i → i ≠ g := fun i hi e => (hk6 i hi).elim (fun e' => h.ng (e ▸ e')) (fun e' => by omega)
  have hz5 : g4 < w5.heap.size := (hz.own.lt g4 rfl).2
  have newx : ∀ i, (Value.slice av (oWf ns es t ys).2.2.took.length cv).ownBlock = some i → i ≠ g4 := fun i hi e => (hk6 i hi).elim (fun e' => hg4 i e' e) (fun e' => by omega)
  rw [ul] at hb6
  refine ⟨hb6, fun i => i = g ∨ i = g4 ∨ (Value.slice av (oWf ns es t ys).2.2.took.length cv).ownBlock = some i, rfl, ⟨some ⟨g4, 0, none⟩, c4, av, cv, ?_, ?_, ?_, ?_, ?_⟩, ?_, ?_⟩
  · refine hz.blk2 (S := fun i => i = g ∨ (Value.slice ay t.took.length cy).ownBlock = some i) ((hu6.mono (fun _ _ e => .inr e)).trans (hu7.mono (fun _ _ e => .inl e))) ?_ ?_
    · rintro i (rfl | e)
      · exact ⟨hB, hz.ng⟩
      · refine ⟨(h.own.lt i e).1, fun e' => hg4 i e ?_⟩
        simp only [Value.ownBlock, Option.some.injEq] at e'
        exact e'.symm
    · have := block_setCell hb6 it (Value.slice av (oWf ns es t ys).2.2.took.length cv)
      rw [hmk] at this
      show _ = some (Obj.cells (mk _ (t.c + 1) (.slice (some ⟨g4, 0, none⟩) (t.szs ++ [(ys.length : Int)]).length c4)) ty (0, 0))
      rw [ul]
      exact this
  · exact owns_upd ho6 hu7 (fun i hi e => newg i hi e)
  · exact fun e => newg g e rfl
  · intro i hi e
    simp only [Value.ownBlock, Option.some.injEq] at e
    exact newx i hi e.symm
  · intro i
    exact ⟨fun e => e.imp id (fun e => e.imp (fun e => by rw [e]; rfl) id), fun e => e.imp id (fun e => e.imp (fun e => by simp only [Value.ownBlock, Option.some.injEq] at e; exact e.symm) id)⟩
  · exact (hMW.trans (hu6.mono (fun i _ e => (h.m i).2 (.inr (.inr e))))).trans (hu7.mono (fun i _ e => (h.m i).2 (.inl e)))
  · rintro i (rfl | rfl | e)
    · exact .inl ((h.m _).2 (.inl rfl))
    · exact h4.imp (fun e => (h.m _).2 (.inr (.inl e))) id
    · exact (hk6 i e).imp (fun e => (h.m i).2 (.inr (.inr e))) (fun e => by omega)

set_option maxRecDepth 100000 in
set_option maxHeartbeats 3200000 in
theorem rowrite_any {an : Option Addr} {ln cn : Nat} {ns : List Int} {ae : Option Addr} {le ce : Nat} {es : List Int} {g B : Nat} {W : World} {t : OWt} {M : Nat → Prop} (b o len pc : Nat) (ys : List Int) (hln : ns.length = ln) (hle : es.length = le) (h : TAt (mkS (.slice an ln cn) (.slice ae le ce)) 51 an ns ae es g B W t M) (hc : t.c < 1099511627776) (hl : ys.length = len) (hpc : len ≤ pc) (hr : Row W .u8 (some ⟨b, o, none⟩) ys) (hM : ¬ M b) (hz : t.took.length + len ≤ 140737488355328) :
    Calls Try.prog 21 #[.pointer (some ⟨g, 0, none⟩), .slice (some ⟨b, o, none⟩) len pc] W fun e W' => OWPost (mkS (.slice an ln cn) (.slice ae le ce)) 51 an ns ae es g B M t ys W e W' := by
  obtain ⟨i0, hi0, hz0, hz1, hz2⟩ := info_partsO infoIntO
  obtain ⟨i1, hi1, hy0, hy1, hy2⟩ := info_parts' infoByte'
  obtain ⟨ax, cx, ay, cy, h⟩ := h
  obtain ⟨l, hl'⟩ : ∃ l, l = t.szs.length := ⟨_, rfl⟩
  have HA := hide (z_app 2 7 (len : Int) h.z (fun _ => rfl) (fun _ _ => rfl) hc l hl' _ rfl)
  have h2 := (mkS_cells h.z.blk).1
  have f2 := (mkS_cells h.z.blk).2.2.2.2.2.2 2
  have HE := hide (fun (w5 : World) (g4 c4 : Nat) => t_end (w5 := w5) (g4 := g4) (c4 := c4) (it := 3) ys h (fun _ _ _ _ => rfl) hl')
  have HR := hide hr
  have HM := hide hM
  replace hl' := hide hl'
  clear h hr hM
  rw [hl] at HE
  go_enter Try.func21, Try.ntmps21
  go_upto_region 2 with fail
  generalize W.setCell ⟨g, 2, none⟩ (.int .i64 ((t.c : Int) + 1)) = w1 at *
  have hcl := mkS_cells HA.out.1.1
  have c4' := hcl.2.2.1
  have c7 := hcl.2.2.2.2.2.1
  have f7 := hcl.2.2.2.2.2.2 7
  clear hcl h2 f2
  go_upto_region 4 with (first
    | (at_builtin; refine app_liesO rfl (.tmp 24) (.tmp 27) 24 rfl B 3 i0 (.int .i64 0) 1 8 Try.underlying24 hi0 hz0 hz1 hz2 rfl (by decide) (.slice ax l cx) l (t.szs.map (Value.int .i64)) rfl HA.out.2.1 ⟨w1.heap.size, 0, none⟩ 1 [.int .i64 (len : Int)] rfl rfl HA.out.2.2.1 (by intro u hu; simp at hu; rcases hu with rfl; rfl) HA.out.2.2.2.1.1 HA.out.2.2.2.1.2.1 HA.out.2.2.2.1.2.2 ?_; intro g4 c4 w4 o4 gr4 k4; have HF4 := hide (HA.out.2.2.2.2 g4 c4 w4 o4 gr4 k4); have k7 := (mkS_cells HF4.out.1).2.2.2.2.2.1; have f7' := (mkS_cells HF4.out.1).2.2.2.2.2.2 7; clear o4 gr4 k4)
    | fail)
  obtain ⟨_, hzz, huu, h44⟩ := HF4.out
  have HT := hide (HE.out _ _ _ hzz huu h44)
  have HZ := hide hzz
  clear huu h44 k7 f7' HA HE HF4
  have hcd := mkS_cells hzz.blk
  have d2 := hcd.1
  have d3 := hcd.2.1
  have d5 := hcd.2.2.2.1
  have d6 := hcd.2.2.2.2.1
  rw [show ((t.c + 1 : Nat) : Int) = (t.c : Int) + 1 by omega] at d2
  clear hzz hcd
  generalize w4.setCell ⟨g, 7, none⟩ (.slice (some ⟨g4, 0, none⟩) (l + 1) c4) = w5 at *
  have HRW := hide (HR.out.upd HT.out.2.2.1 (fun x hx h0 e => by cases hx; exact HM.out e))
  have HTO : Hid (∀ a, Calls Try.prog 34 #[.slice an ln cn, .slice ae le ce, .int .i64 ((t.c : Int) + 1), .int .i64 (len : Int), .int .i64 0] (w5.drewN a) fun e w'' => e = .returned (.tuple #[.int .i64 (toldE ns es (t.c + 1) (len : Int) 0).1, .int .i64 (toldE ns es (t.c + 1) (len : Int) 0).2]) ∧ ∃ n, w'' = w5.drewN n) := hide fun a => by
    have hst := (Still.refl w5).drewN a
    have h := rtold_any an ae ln cn le ce ns es (t.c + 1) (len : Int) 0 _ hln hle (by omega) (by omega) (HZ.out.rn.upd (hst.upd Noth) (fun _ _ _ e => e)) (HZ.out.re.upd (hst.upd Noth) (fun _ _ _ e => e))
    rw [show ((t.c + 1 : Nat) : Int) = (t.c : Int) + 1 by omega] at h
    exact h.mono fun e w' ⟨h1, m, h2⟩ => ⟨h1, a + m, by rw [h2, World.drewN_drewN]⟩
  clear HZ
  have HWF : Hid ((oWf ns es t ys).2.2.took = t.took ++ ys.take (toldE ns es (t.c + 1) (len : Int) 0).1.toNat) := hide (by simp only [oWf, hl])
  generalize toldE ns es (t.c + 1) (len : Int) 0 = tl at *
  obtain ⟨n, er⟩ := tl
  simp only at HTO HT HWF
  obtain ⟨m, hm⟩ : ∃ m, m = min n.toNat len := ⟨_, rfl⟩
  have hyt : ys.take n.toNat = ys.take m := by
    rw [hm]
    by_cases hh : n.toNat ≤ len
    · rw [Nat.min_eq_left hh]
    · rw [Nat.min_eq_right (by omega), List.take_of_length_le (by omega), List.take_of_length_le (by omega)]
  rw [hyt] at HWF
  have hml : m ≤ len := by omega
  have HYL : Hid ((ys.take m).length = m) := hide (by rw [List.length_take]; omega)
  have HR1 := hide (HRW.out.take m)
  have hzm : t.took.length + m ≤ 140737488355328 := by omega
  replace hm := hide hm
  clear hyt HRW HR HM
  go_quiet ((go_at_call 34; with_reducible exact HTO.out _))
  go_upto_region 5 with fail
  have HST : Hid (∀ n, Still w5 (w5.drewN n)) := hide fun n => (Still.refl w5).drewN n
  rw [HWF.out] at HT
  obtain ⟨L, hL⟩ : ∃ L, L = (t.took ++ ys.take m).length := ⟨_, rfl⟩
  have HL := hide hL
  clear hL
  have hn0 : (0 : Int) ≤ (m : Int) := by omega
  have hmp : (m : Int) ≤ (pc : Int) := by omega
  clear HTO HWF
  by_cases na : n < 0
  · have hm0 : m = 0 := by have := hm.out; omega
    subst hm0
    have x1 : ¬ (len : Int) < n := by omega
    have x2 : ¬ (0 : Int) < n := by omega
    go_region_law (refine step_app rfl (.tmp 53) (.tmp 60) 23 rfl B 5 i1 Try.underlying23 hi1 hy0 hy1 hy2 (.slice ay t.took.length cy) t.took (by simp [Act.eval, Act.put]) HT.out.1 (some ⟨b, o, none⟩) 0 pc (ys.take 0) (by simp [Act.eval, Act.put]) HYL.out (fun e => by cases e) HR1.out hzm HT.out.2.1 ?_; intro v6 w6 hv6 hg6 hn6; obtain ⟨av, cv, hvv, _⟩ := owns_slice hv6; have hT := HT.out.2.2.2 _ v6 w6 av cv (HST.out _) hvv hv6 hg6 hn6; have k3 := (mkS_cells hT.1).2.1; have f3 := (mkS_cells hT.1).2.2.2.2.2.2 3; have HFF := hide hT.2; clear hT hv6 hg6 hn6; rw [← HL.out] at hvv; subst hvv)
    all_goals (try go_wp2_with fail)
    all_goals go_ret2
    all_goals exact HFF.out
  · by_cases nb : (len : Int) < n
    · have hm0 : m = len := by have := hm.out; omega
      have hif : (if 0 < len then (len : Int) else 0) = (len : Int) := by split <;> omega
      subst hm0
      go_region_law (refine step_app rfl (.tmp 53) (.tmp 60) 23 rfl B 5 i1 Try.underlying23 hi1 hy0 hy1 hy2 (.slice ay t.took.length cy) t.took (by simp [Act.eval, Act.put]) HT.out.1 (some ⟨b, o, none⟩) m pc (ys.take m) (by simp [Act.eval, Act.put]) HYL.out (fun e => by cases e) HR1.out hzm HT.out.2.1 ?_; intro v6 w6 hv6 hg6 hn6; obtain ⟨av, cv, hvv, _⟩ := owns_slice hv6; have hT := HT.out.2.2.2 _ v6 w6 av cv (HST.out _) hvv hv6 hg6 hn6; have k3 := (mkS_cells hT.1).2.1; have f3 := (mkS_cells hT.1).2.2.2.2.2.2 3; have HFF := hide hT.2; clear hT hv6 hg6 hn6; rw [← HL.out] at hvv; subst hvv)
      all_goals (try go_wp2_with fail)
      all_goals go_ret2
      all_goals exact HFF.out
    · have hm0 : n = (m : Int) := by have := hm.out; omega
      have hif : (if 0 < m then (m : Int) else 0) = (m : Int) := by split <;> omega
      subst hm0
      go_region_law (refine step_app rfl (.tmp 53) (.tmp 60) 23 rfl B 5 i1 Try.underlying23 hi1 hy0 hy1 hy2 (.slice ay t.took.length cy) t.took (by simp [Act.eval, Act.put]) HT.out.1 (some ⟨b, o, none⟩) m pc (ys.take m) (by simp [Act.eval, Act.put]) HYL.out (fun e => by cases e) HR1.out hzm HT.out.2.1 ?_; intro v6 w6 hv6 hg6 hn6; obtain ⟨av, cv, hvv, _⟩ := owns_slice hv6; have hT := HT.out.2.2.2 _ v6 w6 av cv (HST.out _) hvv hv6 hg6 hn6; have k3 := (mkS_cells hT.1).2.1; have f3 := (mkS_cells hT.1).2.2.2.2.2.2 3; have HFF := hide hT.2; clear hT hv6 hg6 hn6; rw [← HL.out] at hvv; subst hvv)
      all_goals (try go_wp2_with fail)
      all_goals go_ret2
      all_goals exact HFF.out

theorem oWf_cnt (ns es : List Int) (t : OWt) (ys : List Int) : oCntW (oWf ns es t ys).2.2 = oCntW t + 1 := by
  have h1 := oCntW_eq t
  have h2 := oCntW_eq (oWf ns es t ys).2.2
  have h3 : (oWf ns es t ys).2.2.c = t.c + 1 := rfl
  omega
theorem oWf_szle (ns es : List Int) (t : OWt) (ys : List Int) : (oWf ns es t ys).2.2.took.length ≤ t.took.length + ys.length := by
  simp only [oWf, List.length_append, List.length_take]; omega
theorem oWf_szin (ns es : List Int) (t : OWt) (ys : List Int) : (oWf ns es t ys).2.2.took.length ≤ t.took.length + (oWf ns es t ys).1.toNat := by
  simp only [oWf, List.length_append, List.length_take]; omega
theorem ro_writer (ns es : List Int) (an : Option Addr) (ln cn : Nat) (ae : Option Addr) (le ce : Nat) (g B : Nat) (hln : ns.length = ln) (hle : es.length = le) :
    Writer (oWf ns es) oCntW (fun t => t.took.length) 21 (.pointer (some ⟨g, 0, none⟩)) B (TAt (mkS (.slice an ln cn) (.slice ae le ce)) 51 an ns ae es g B) where
  upd := fun h hu hs => h.upd hu hs
  lt := fun h => h.lt
  cnt1 := oWf_cnt ns es
  szle := oWf_szle ns es
  szin := fun t b _ _ => oWf_szin ns es t b
  write := fun W t M b o len pc ys h hc hl _ hpc hr hM hz _ => by
    refine (rowrite_any b o len pc ys hln hle h (by rw [oCntW_eq] at hc; omega) hl hpc hr hM hz).mono fun e W' ⟨M', h1, h2, h3, h4⟩ => ⟨M', h1, h2, h3, h4⟩

end Go.Proofs.Ytcffekhlnidjnaa
