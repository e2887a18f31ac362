/- The law's own writer of any behaviour (pipe). -/
import Derived.Test.YtcffekhlnidjnaaPLo
namespace Go.Proofs.Ytcffekhlnidjnaa
open Go.RowKit

structure IsQW (W : World) (B : Nat) (M : Nat → Prop) (an : Option Addr) (ln cn : Nat) (ns : List Int) (ae : Option Addr) (le ce : Nat) (es : List Int) (g : Nat) (t : OWt) (ay : Option Addr) (cy : Nat) : Prop where
  q : IsQ W B an ln cn ns ae le ce es (.int .u8 0) (.slice ay t.took.length cy) g t.c
  own : W.ownsRow B 5 1 (.slice ay t.took.length cy) t.took.length (t.took.map (Value.int .u8))
  ng : (Value.slice ay t.took.length cy).ownBlock ≠ some g
  m : ∀ i, M i ↔ i = g ∨ (Value.slice ay t.took.length cy).ownBlock = some i
def PWd (ns es : List Int) (an : Option Addr) (ln cn : Nat) (ae : Option Addr) (le ce : Nat) (g B : Nat) (W : World) (t : OWt) (M : Nat → Prop) : Prop := ∃ ay cy, IsQW W B M an ln cn ns ae le ce es g t ay cy
theorem PWd.upd {ns es : List Int} {an : Option Addr} {ln cn : Nat} {ae : Option Addr} {le ce : Nat} {g B : Nat} {W W' : World} {t : OWt} {M S : Nat → Prop} (h : PWd ns es an ln cn ae le ce g B W t M) (hu : Upd S W W') (hs : ∀ i, S i → B ≤ i ∧ ¬ M i) : PWd ns es an ln cn ae le ce g B W' t M := by
  obtain ⟨ay, cy, h⟩ := h
  exact ⟨ay, cy, h.q.upd hu (fun i e => ⟨(hs i e).1, fun e' => (hs i e).2 ((h.m i).2 (.inl e'))⟩), owns_upd h.own hu (fun i hi e => (hs i e).2 ((h.m i).2 (.inr hi))), h.ng, h.m⟩
theorem PWd.lt {ns es : List Int} {an : Option Addr} {ln cn : Nat} {ae : Option Addr} {le ce : Nat} {g B : Nat} {W : World} {t : OWt} {M : Nat → Prop} (h : PWd ns es an ln cn ae le ce g B W t M) : ∀ i, M i → B ≤ i ∧ i < W.heap.size := by
  obtain ⟨ay, cy, h⟩ := h
  intro i hi
  rcases (h.m i).1 hi with rfl | e
  · exact ⟨h.q.gb, lt_of_block h.q.blk⟩
  · exact h.own.lt i e
def PWPost (ns es : List Int) (an : Option Addr) (ln cn : Nat) (ae : Option Addr) (le ce : Nat) (g B : Nat) (M : Nat → Prop) (t : OWt) (ys : List Int) (W : World) (e : Ending) (W' : World) : Prop :=
  ∃ M', e = .returned (.tuple #[.int .i64 (oWf ns es t ys).1, .int .i64 (oWf ns es t ys).2.1]) ∧ PWd ns es an ln cn ae le ce g B W' (oWf ns es t ys).2.2 M' ∧ Upd M W W' ∧ ∀ i, M' i → M i ∨ W.heap.size ≤ i

theorem pw_end {an : Option Addr} {ln cn : Nat} {ns : List Int} {ae : Option Addr} {le ce : Nat} {es : List Int} {g B : Nat} {M : Nat → Prop} {t : OWt} {W w5 : World} {ay : Option Addr} {cy : Nat} (ys : List Int) (h : IsQW W B M an ln cn ns ae le ce es g t ay cy)
    (hq : IsQ w5 B an ln cn ns ae le ce es (.int .u8 0) (.slice ay t.took.length cy) g (t.c + 1)) (hu : Upd (fun i => i = g) W w5) :
    w5.ownsRow B 5 1 (.slice ay t.took.length cy) t.took.length (t.took.map (Value.int .u8)) ∧ B ≤ w5.heap.size ∧ Upd M W w5 ∧
    ∀ V v6 w6 av cv, Still w5 V → v6 = Value.slice av (oWf ns es t ys).2.2.took.length cv → w6.ownsRow B 5 1 v6 (oWf ns es t ys).2.2.took.length ((oWf ns es t ys).2.2.took.map (Value.int .u8)) → V.grownBy w6 (Value.slice ay t.took.length cy).ownBlock → (∀ k, v6.ownBlock = some k → (Value.slice ay t.took.length cy).ownBlock = some k ∨ V.heap.size ≤ k) →
      w6.heap[g]? = some (.cells (PO5 (.slice an ln cn) (.slice ae le ce) (.int .u8 0) (.slice ay t.took.length cy) (t.c + 1)) 69 (0, 0)) ∧ PWPost ns es an ln cn ae le ce g B M t ys W (.returned (.tuple #[.int .i64 (toldE ns es (t.c + 1) (ys.length : Int) 0).1, .int .i64 (toldE ns es (t.c + 1) (ys.length : Int) 0).2])) (w6.setCell ⟨g, 4, none⟩ v6) := by
  have hzs := hu.size
  have hgl := lt_of_block h.q.blk
  have hot : w5.ownsRow B 5 1 (.slice ay t.took.length cy) t.took.length (t.took.map (Value.int .u8)) := owns_upd h.own hu (fun i hi e => h.ng (e ▸ hi))
  have hB := h.q.gb
  have hMW : Upd M W w5 := hu.mono (fun i _ e => (h.m i).2 (.inl e))
  refine ⟨hot, by omega, hMW, fun V v6 w6 av cv hV hv6 ho6 hg6 hk6 => ?_⟩
  subst hv6
  have hVs : V.heap.size = w5.heap.size := by rw [hV.heap]
  have hu6 : Upd (fun i => (Value.slice ay t.took.length cy).ownBlock = some i) w5 w6 := (hV.upd _).trans (Upd.of_grown hg6 (fun k hk _ => hk))
  have hu7 : Upd (fun i => i = g) w6 (w6.setCell ⟨g, 4, none⟩ (Value.slice av (oWf ns es t ys).2.2.took.length cv)) := (Upd.refl _ _).set1 4 _
  have hb6 := hu6.heap hq.blk (fun e => h.ng e)
  have newg : ∀ i, (Value.slice av (oWf ns es t ys).2.2.took.length cv).ownBlock = some i → i ≠ g := fun i hi e => (hk6 i hi).elim (fun e' => h.ng (e ▸ e')) (fun e' => by omega)
  refine ⟨hb6, fun i => i = g ∨ (Value.slice av (oWf ns es t ys).2.2.took.length cv).ownBlock = some i, rfl, ⟨av, cv, ?_, ?_, ?_, fun i => Iff.rfl⟩, ?_, ?_⟩
  · refine hq.blk2 (S := fun i => i = g ∨ (Value.slice ay t.took.length cy).ownBlock = some i) ((hu6.mono (fun _ _ e => .inr e)).trans (hu7.mono (fun _ _ e => .inl e))) ?_ (block_setCell hb6 4 (Value.slice av (oWf ns es t ys).2.2.took.length cv))
    rintro i (rfl | e)
    · exact hB
    · exact (h.own.lt i e).1
  · exact owns_upd ho6 hu7 (fun i hi e => newg i hi e)
  · exact fun e => newg g e rfl
  · exact (hMW.trans (hu6.mono (fun i _ e => (h.m i).2 (.inr e)))).trans (hu7.mono (fun i _ e => (h.m i).2 (.inl e)))
  · rintro i (rfl | e)
    · exact .inl ((h.m _).2 (.inl rfl))
    · exact (hk6 i e).imp (fun e => (h.m i).2 (.inr e)) (fun e => by omega)

set_option maxRecDepth 100000 in
set_option maxHeartbeats 3200000 in
theorem powrite_any {an : Option Addr} {ln cn : Nat} {ns : List Int} {ae : Option Addr} {le ce : Nat} {es : List Int} {g B : Nat} {W : World} {t : OWt} {M : Nat → Prop} (b o len pc : Nat) (ys : List Int) (hln : ns.length = ln) (hle : es.length = le) (h : PWd ns es an ln cn ae le ce g B W t M) (hc : t.c < 1099511627776) (hl : ys.length = len) (hpc : len ≤ pc) (hr : Row W .u8 (some ⟨b, o, none⟩) ys) (hM : ¬ M b) (hz : t.took.length + len ≤ 140737488355328) :
    Calls Try.prog 56 #[.pointer (some ⟨g, 0, none⟩), .slice (some ⟨b, o, none⟩) len pc] W fun e W' => PWPost ns es an ln cn ae le ce g B M t ys W e W' := by
  obtain ⟨i1, hi1, hy0, hy1, hy2⟩ := info_parts' infoByte'
  obtain ⟨ay, cy, h⟩ := h
  have HTO := hide (ptold_any (len : Int) 0 hln hle h.q hc)
  have HE := hide (fun (w5 : World) => pw_end (w5 := w5) ys h)
  have HR := hide hr
  have HM := hide hM
  clear h hr hM
  rw [hl] at HE
  go_enter Try.func56, Try.ntmps56
  go_wp2_with fail
  refine HTO.out.mono ?_
  rintro e w5 ⟨rfl, hz5, hu5⟩
  have HT := hide (HE.out w5 hz5 hu5)
  have d4 := (po_cells hz5.blk).2.2.2.2.1
  have HRW := hide (HR.out.upd HT.out.2.2.1 (fun x hx h0 e => by cases hx; exact HM.out e))
  clear hz5 hu5 HE HTO
  have HWF : Hid ((oWf ns es t ys).2.2.took = t.took ++ ys.take (toldE ns es (t.c + 1) (len : Int) 0).1.toNat) := hide (by simp only [oWf, hl])
  generalize toldE ns es (t.c + 1) (len : Int) 0 = tl at *
  obtain ⟨n, er⟩ := tl
  simp only at HT HWF
  obtain ⟨m, hm⟩ : ∃ m, m = min n.toNat len := ⟨_, rfl⟩
  have hyt : ys.take n.toNat = ys.take m := by
    rw [hm]
    by_cases hh : n.toNat ≤ len
    · rw [Nat.min_eq_left hh]
    · rw [Nat.min_eq_right (by omega), List.take_of_length_le (by omega), List.take_of_length_le (by omega)]
  rw [hyt] at HWF
  have hml : m ≤ len := by omega
  have HYL : Hid ((ys.take m).length = m) := hide (by rw [List.length_take]; omega)
  have HR1 := hide (HRW.out.take m)
  have hzm : t.took.length + m ≤ 140737488355328 := by omega
  replace hm := hide hm
  clear hyt HRW HR HM
  go_upto_region 2 with fail
  have HST : Hid (Still w5 w5.drew) := hide (Still.refl w5).drew
  rw [HWF.out] at HT
  obtain ⟨L, hL⟩ : ∃ L, L = (t.took ++ ys.take m).length := ⟨_, rfl⟩
  have HL := hide hL
  clear hL
  have hn0 : (0 : Int) ≤ (m : Int) := by omega
  have hmp : (m : Int) ≤ (pc : Int) := by omega
  clear HWF
  by_cases na : n < 0
  · have hm0 : m = 0 := by have := hm.out; omega
    subst hm0
    have x1 : ¬ (len : Int) < n := by omega
    have x2 : ¬ (0 : Int) < n := by omega
    go_region_law (refine step_app rfl (.tmp 19) (.tmp 26) 23 rfl B 5 i1 Try.underlying23 hi1 hy0 hy1 hy2 (.slice ay t.took.length cy) t.took (by simp [Act.eval, Act.put]) HT.out.1 (some ⟨b, o, none⟩) 0 pc (ys.take 0) (by simp [Act.eval, Act.put]) HYL.out (fun e => by cases e) HR1.out hzm HT.out.2.1 ?_; intro v6 w6 hv6 hg6 hn6; obtain ⟨av, cv, hvv, _⟩ := owns_slice hv6; have hT := HT.out.2.2.2 _ v6 w6 av cv HST.out hvv hv6 hg6 hn6; have k5 := (po_cells hT.1).2.2.2.2.1; have f5 := (po_cells hT.1).2.2.2.2.2 4; have HFF := hide hT.2; clear hT hv6 hg6 hn6; rw [← HL.out] at hvv; subst hvv)
    all_goals (try go_wp2_with fail)
    all_goals go_ret2
    all_goals exact HFF.out
  · by_cases nb : (len : Int) < n
    · have hm0 : m = len := by have := hm.out; omega
      have hif : (if 0 < len then (len : Int) else 0) = (len : Int) := by split <;> omega
      subst hm0
      go_region_law (refine step_app rfl (.tmp 19) (.tmp 26) 23 rfl B 5 i1 Try.underlying23 hi1 hy0 hy1 hy2 (.slice ay t.took.length cy) t.took (by simp [Act.eval, Act.put]) HT.out.1 (some ⟨b, o, none⟩) m pc (ys.take m) (by simp [Act.eval, Act.put]) HYL.out (fun e => by cases e) HR1.out hzm HT.out.2.1 ?_; intro v6 w6 hv6 hg6 hn6; obtain ⟨av, cv, hvv, _⟩ := owns_slice hv6; have hT := HT.out.2.2.2 _ v6 w6 av cv HST.out hvv hv6 hg6 hn6; have k5 := (po_cells hT.1).2.2.2.2.1; have f5 := (po_cells hT.1).2.2.2.2.2 4; have HFF := hide hT.2; clear hT hv6 hg6 hn6; rw [← HL.out] at hvv; subst hvv)
      all_goals (try go_wp2_with fail)
      all_goals go_ret2
      all_goals exact HFF.out
    · have hm0 : n = (m : Int) := by have := hm.out; omega
      have hif : (if 0 < m then (m : Int) else 0) = (m : Int) := by split <;> omega
      subst hm0
      go_region_law (refine step_app rfl (.tmp 19) (.tmp 26) 23 rfl B 5 i1 Try.underlying23 hi1 hy0 hy1 hy2 (.slice ay t.took.length cy) t.took (by simp [Act.eval, Act.put]) HT.out.1 (some ⟨b, o, none⟩) m pc (ys.take m) (by simp [Act.eval, Act.put]) HYL.out (fun e => by cases e) HR1.out hzm HT.out.2.1 ?_; intro v6 w6 hv6 hg6 hn6; obtain ⟨av, cv, hvv, _⟩ := owns_slice hv6; have hT := HT.out.2.2.2 _ v6 w6 av cv HST.out hvv hv6 hg6 hn6; have k5 := (po_cells hT.1).2.2.2.2.1; have f5 := (po_cells hT.1).2.2.2.2.2 4; have HFF := hide hT.2; clear hT hv6 hg6 hn6; rw [← HL.out] at hvv; subst hvv)
      all_goals (try go_wp2_with fail)
      all_goals go_ret2
      all_goals exact HFF.out

theorem po_writer (ns es : List Int) (an : Option Addr) (ln cn : Nat) (ae : Option Addr) (le ce : Nat) (g B : Nat) (hln : ns.length = ln) (hle : es.length = le) :
    Writer (oWf ns es) oCntW (fun t => t.took.length) 56 (.pointer (some ⟨g, 0, none⟩)) B (PWd ns es an ln cn ae le ce g B) where
  upd := fun h hu hs => h.upd hu hs
  lt := fun h => h.lt
  cnt1 := oWf_cnt ns es
  szle := oWf_szle ns es
  szin := fun t b _ _ => oWf_szin ns es t b
  write := fun W t M b o len pc ys h hc hl _ hpc hr hM hz _ => by
    refine (powrite_any b o len pc ys hln hle h (by rw [oCntW_eq] at hc; omega) hl hpc hr hM hz).mono fun e W' ⟨M', h1, h2, h3, h4⟩ => ⟨M', h1, h2, h3, h4⟩

theorem po_rleads (g : Nat) : Leads "Read" 67 (.pointer (some ⟨g, 0, none⟩)) 55 (.pointer (some ⟨g, 0, none⟩)) :=
  ⟨fun w => by kernel_rfl, enters_of Try.func55 (by kernel_rfl) rfl⟩
theorem po_wleads (g : Nat) : Leads "Write" 67 (.pointer (some ⟨g, 0, none⟩)) 56 (.pointer (some ⟨g, 0, none⟩)) :=
  ⟨fun w => by kernel_rfl, enters_of Try.func56 (by kernel_rfl) rfl⟩

end Go.Proofs.Ytcffekhlnidjnaa
