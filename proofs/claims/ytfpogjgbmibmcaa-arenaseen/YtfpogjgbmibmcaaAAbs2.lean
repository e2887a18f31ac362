/- An arena as such: Head, Body, SetHead, SetBody, New. -/
import Derived.Test.YtfpogjgbmibmcaaAAbs
namespace Go.Proofs.Ytfpogjgbmibmcaa
open Go.RowKit

/-- The node that is read. -/
def AS.rd (s : AS) (id : Int) : NP := if s.inn id then s.n id else NP.zero
def HdP2 (W : World) (p : NP) (er : Int) (e : Ending) (w' : World) : Prop :=
  ∃ t : Tx, e = .returned (.tuple #[.agg #[.int .i64 p.lv, t.v, .int .i64 p.ri], .int .i64 er]) ∧ t.s = p.hi ∧ OwnB w' W.heap.size 5 t.v t.s ∧ B8 t.s ∧ t.s.length ≤ 140737488351232 ∧ Below W.heap.size W w'
def BdP2 (W : World) (p : NP) (er : Int) (e : Ending) (w' : World) : Prop :=
  ∃ (k v : TL) (c : IL), e = .returned (.tuple #[.agg #[k.v, v.v, c.v], .int .i64 er]) ∧ k.p = p.ks ∧ v.p = p.vs ∧ c.s = p.cs ∧ k.Own w' W.heap.size ∧ v.Own w' W.heap.size ∧ w'.ownsRow W.heap.size 3 1 c.v c.s.length (c.s.map (Value.int .i64)) ∧
    (k.L.length * 24 ≤ 140737488352000 ∧ v.L.length * 24 ≤ 140737488352000 ∧ c.s.length * 8 ≤ 140737488352000) ∧ Below W.heap.size W w'
theorem tl_own_nil (W : World) (N : Nat) : (⟨none, 0, []⟩ : TL).Own W N := ⟨World.ownsRow_nil _ _ _ _, fun x hx => (by cases hx), fun x hx => (by cases hx)⟩
theorem hdP2_of {W w' : World} {e : Ending} {n : Nd} (hn : n.Ok W) (h : HePost W n.lv n.ri n.hi.s.length n.hi.s e w') : HdP2 W n.p 0 e w' := by
  obtain ⟨a, c, rfl, h1, h2⟩ := h
  exact ⟨⟨a, c, n.hi.s⟩, rfl, rfl, h1, hn.h.b8, hn.h.z, h2⟩
theorem bdP2_of {W w' : World} {e : Ending} {n : Nd} (hn : n.Ok W) (h : BoPost W n.ks.L.length n.vs.L.length n.cs.s.length n.ks.L n.vs.L n.cs.s e w') : BdP2 W n.p 0 e w' := by
  obtain ⟨kn, kd, K', vn, vd, V', cn, cd, rfl, p1, p2, l1, l2, o1, o2, o3, hb⟩ := h
  refine ⟨⟨kn, kd, K'⟩, ⟨vn, vd, V'⟩, ⟨cn, cd, n.cs.s⟩, ?_, p1, p2, rfl, o1, o2, o3, ⟨by simp only [l1]; exact hn.kz, by simp only [l2]; exact hn.vz, hn.cz⟩, hb⟩
  simp only [TL.v, IL.v, l1, l2]
section
variable {W : World} {A : Nat} {F : Nat → Prop} {s : AS}
theorem px_head (h : PX W A F s) (id : Int) : Calls Try.prog 25 #[.pointer (some ⟨A, 0, none⟩), .int .i64 id] W (HdP2 W (s.rd id) (s.wordE id)) := by
  obtain ⟨M, D, L, h1, h2, _⟩ := h
  unfold AS.rd
  by_cases hin : s.inn id
  · obtain ⟨i, hi, hid, _⟩ := AS.idx hin
    have hi' : i < L.length := by rw [ndsOf_lenS h2]; exact hi
    obtain ⟨hw, hn⟩ := ndsOf_at h2 hi' hid
    rw [show s.wordE id = 0 from if_pos hin, if_pos hin, hn]
    have := ahead_any h1 i hi'
    rw [← hid] at this
    exact this.mono fun e w' h => hdP2_of (h1.sl L[i] (List.getElem_mem hi')).n h
  · rw [show s.wordE id = 101 from if_neg hin, if_neg hin]
    refine (head_none h1 id (by rw [ndsOf_lenS h2]; exact hin)).mono ?_
    rintro e w' ⟨rfl, hb⟩
    exact ⟨⟨none, 0, []⟩, rfl, rfl, OwnB.nil _ _ _, B8.nil, Nat.zero_le _, hb⟩
theorem rx_head (h : RX W A F s) (id : Int) : Calls Try.prog 57 #[.pointer (some ⟨A, 0, none⟩), .int .i64 id] W (HdP2 W (s.rd id) (s.wordE id)) := by
  obtain ⟨g, c, M, D, L, h1, h2, _⟩ := h
  unfold AS.rd
  by_cases hin : s.inn id
  · obtain ⟨i, hi, hid, _⟩ := AS.idx hin
    have hi' : i < L.length := by rw [ndsR_lenS h2]; exact hi
    obtain ⟨hw, hn⟩ := ndsR_at h2 hi' hid
    rw [show s.wordE id = 0 from if_pos hin, if_pos hin, hn]
    have := rhead_any h1 i hi'
    rw [← hid] at this
    exact this.mono fun e w' h => hdP2_of (h1.sl L[i] (List.getElem_mem hi')).n h
  · rw [show s.wordE id = 101 from if_neg hin, if_neg hin]
    refine (rhead_none h1 id (by rw [ndsR_lenS h2]; exact hin)).mono ?_
    rintro e w' ⟨rfl, hb⟩
    exact ⟨⟨none, 0, []⟩, rfl, rfl, OwnB.nil _ _ _, B8.nil, Nat.zero_le _, hb⟩
theorem px_body (h : PX W A F s) (id : Int) : Calls Try.prog 26 #[.pointer (some ⟨A, 0, none⟩), .int .i64 id] W (BdP2 W (s.rd id) (s.wordE id)) := by
  obtain ⟨M, D, L, h1, h2, _⟩ := h
  unfold AS.rd
  by_cases hin : s.inn id
  · obtain ⟨i, hi, hid, _⟩ := AS.idx hin
    have hi' : i < L.length := by rw [ndsOf_lenS h2]; exact hi
    obtain ⟨hw, hn⟩ := ndsOf_at h2 hi' hid
    rw [show s.wordE id = 0 from if_pos hin, if_pos hin, hn]
    have := abody_any h1 i hi'
    rw [← hid] at this
    exact this.mono fun e w' h => bdP2_of (h1.sl L[i] (List.getElem_mem hi')).n h
  · rw [show s.wordE id = 101 from if_neg hin, if_neg hin]
    refine (body_none h1 id (by rw [ndsOf_lenS h2]; exact hin)).mono ?_
    rintro e w' ⟨rfl, hb⟩
    exact ⟨⟨none, 0, []⟩, ⟨none, 0, []⟩, ⟨none, 0, []⟩, rfl, rfl, rfl, rfl, tl_own_nil _ _, tl_own_nil _ _, World.ownsRow_nil _ _ _ _, ⟨Nat.zero_le _, Nat.zero_le _, Nat.zero_le _⟩, hb⟩
theorem rx_body (h : RX W A F s) (id : Int) : Calls Try.prog 58 #[.pointer (some ⟨A, 0, none⟩), .int .i64 id] W (BdP2 W (s.rd id) (s.wordE id)) := by
  obtain ⟨g, c, M, D, L, h1, h2, _⟩ := h
  unfold AS.rd
  by_cases hin : s.inn id
  · obtain ⟨i, hi, hid, _⟩ := AS.idx hin
    have hi' : i < L.length := by rw [ndsR_lenS h2]; exact hi
    obtain ⟨hw, hn⟩ := ndsR_at h2 hi' hid
    rw [show s.wordE id = 0 from if_pos hin, if_pos hin, hn]
    have := rbody_any h1 i hi'
    rw [← hid] at this
    exact this.mono fun e w' h => bdP2_of (h1.sl L[i] (List.getElem_mem hi')).n h
  · rw [show s.wordE id = 101 from if_neg hin, if_neg hin]
    refine (rbody_none h1 id (by rw [ndsR_lenS h2]; exact hin)).mono ?_
    rintro e w' ⟨rfl, hb⟩
    exact ⟨⟨none, 0, []⟩, ⟨none, 0, []⟩, ⟨none, 0, []⟩, rfl, rfl, rfl, rfl, tl_own_nil _ _, tl_own_nil _ _, World.ownsRow_nil _ _ _ _, ⟨Nat.zero_le _, Nat.zero_le _, Nat.zero_le _⟩, hb⟩

theorem opE_eq {L : List Sl} (h : ndsOf L = s.sl) (id : Int) (hne : s.unlE id ≠ 0) : opE L id = s.unlE id ∧ ∀ i (hi : i < L.length), id = (i : Int) + 1 → L[i].w % 2 = 0 := by
  unfold opE
  by_cases hin : s.inn id
  · have hw : s.w id % 2 = 0 := Decidable.byContradiction fun hc => hne (by unfold AS.unlE; rw [if_pos hin, if_neg hc])
    refine ⟨?_, fun i hi hid => by rw [← (ndsOf_at h hi hid).1]; exact hw⟩
    unfold AS.unlE
    rw [if_pos hin, if_pos hw, if_pos (by rw [ndsOf_lenS h]; exact hin)]
  · refine ⟨?_, fun i hi hid => absurd (show s.inn id by unfold AS.inn; rw [← ndsOf_lenS h]; omega) hin⟩
    unfold AS.unlE
    rw [if_neg hin, if_neg (by rw [ndsOf_lenS h]; exact hin)]
theorem unl_in {id : Int} (hE : s.unlE id = 0) : s.inn id ∧ s.w id % 2 = 1 := by
  have hin : s.inn id := Decidable.byContradiction fun hc => by unfold AS.unlE at hE; rw [if_neg hc] at hE; cases hE
  have hl : ¬ s.w id % 2 = 0 := fun hc => by unfold AS.unlE at hE; rw [if_pos hin, if_pos hc] at hE; cases hE
  exact ⟨hin, by omega⟩
theorem px_setH (h : PX W A F s) (id lv ri : Int) (t : Tx) (ht : t.Ok W) : Calls Try.prog 23 #[.pointer (some ⟨A, 0, none⟩), .int .i64 id, .agg #[.int .i64 lv, t.v, .int .i64 ri]] W fun e w' => e = .returned (.int .i64 (s.unlE id)) ∧ PNext W A F (s.hedS id lv t.s ri) w' := by
  have h0 := h
  obtain ⟨M, D, L, h1, h2, h3, h4⟩ := h
  by_cases hE : s.unlE id = 0
  · obtain ⟨hin, hodd⟩ := unl_in hE
    obtain ⟨i, hi, hid, _⟩ := AS.idx hin
    have hi' : i < L.length := by rw [ndsOf_lenS h2]; exact hi
    obtain ⟨hw, hn⟩ := ndsOf_at h2 hi' hid
    rw [show s.hedS id lv t.s ri = s.setn id ((s.n id).setH lv t.s ri) from if_pos hE, hE]
    have := setHead_any h1 i hi' (by rw [← hw]; exact hodd) lv ri t ht
    rw [← hid] at this
    refine this.mono ?_
    rintro e w' ⟨D', n, rfl, hP, hp, hD, hU⟩
    refine ⟨rfl, pnext_of (s' := s.setn id ((s.n id).setH lv t.s ri)) h3 h4 hP ?_ (fun k hk => .inl hk) hD hU⟩
    rw [ndsOf_set h2 hid]
    simp only [AS.setn, hn, hw, hp]
  · rw [show s.hedS id lv t.s ri = s from if_neg hE]
    obtain ⟨e1, e2⟩ := opE_eq h2 id hE
    rw [← e1]
    exact (setHead_not h1 id lv ri t e2).mono fun e w' ⟨a1, a2⟩ => ⟨a1, h0.still a2⟩
theorem rx_setH (h : RX W A F s) (id lv ri : Int) (t : Tx) (ht : t.Ok W) : Calls Try.prog 35 #[.pointer (some ⟨A, 0, none⟩), .int .i64 id, .agg #[.int .i64 lv, t.v, .int .i64 ri]] W fun e w' => e = .returned (.int .i64 (s.unlE id)) ∧ RNext W A F (s.hedS id lv t.s ri) w' := by
  have h0 := h
  obtain ⟨g, c, M, D, L, h1, h2, h3, h4⟩ := h
  by_cases hE : s.unlE id = 0
  · obtain ⟨hin, hodd⟩ := unl_in hE
    obtain ⟨i, hi, hid, _⟩ := AS.idx hin
    have hi' : i < L.length := by rw [ndsR_lenS h2]; exact hi
    obtain ⟨hw, hn⟩ := ndsR_at h2 hi' hid
    rw [show s.hedS id lv t.s ri = s.setn id ((s.n id).setH lv t.s ri) from if_pos hE, hE]
    have := rsetHead_any h1 i hi' (by rw [← hw]; exact hodd) lv ri t ht
    rw [← hid] at this
    refine this.mono ?_
    rintro e w' ⟨D', n, rfl, hP, hp, hD, hU⟩
    refine ⟨rfl, rnext_of (s' := s.setn id ((s.n id).setH lv t.s ri)) h3 h4 hP ?_ (fun k hk => .inl hk) hD hU⟩
    rw [ndsR_set h2 hid]
    simp only [AS.setn, hn, hw, hp]
  · rw [show s.hedS id lv t.s ri = s from if_neg hE, ← heE_eq h2]
    exact (rsetHead_not h1 id lv ri t (by rw [heE_eq h2]; exact hE)).mono fun e w' ⟨a1, a2⟩ => ⟨a1, h0.still a2⟩
theorem px_setB (h : PX W A F s) (id : Int) (k v : TL) (c : IL) (hk : k.Ok W) (hv : v.Ok W) (hc : c.Ok W) (kz : k.L.length * 24 ≤ 140737488352000) (vz : v.L.length * 24 ≤ 140737488352000) (cz : c.s.length * 8 ≤ 140737488352000) :
    Calls Try.prog 24 #[.pointer (some ⟨A, 0, none⟩), .int .i64 id, .agg #[k.v, v.v, c.v]] W fun e w' => e = .returned (.int .i64 (s.unlE id)) ∧ PNext W A F (s.bodS id k.p v.p c.s) w' := by
  have h0 := h
  obtain ⟨M, D, L, h1, h2, h3, h4⟩ := h
  by_cases hE : s.unlE id = 0
  · obtain ⟨hin, hodd⟩ := unl_in hE
    obtain ⟨i, hi, hid, _⟩ := AS.idx hin
    have hi' : i < L.length := by rw [ndsOf_lenS h2]; exact hi
    obtain ⟨hw, hn⟩ := ndsOf_at h2 hi' hid
    rw [show s.bodS id k.p v.p c.s = s.setn id ((s.n id).setB k.p v.p c.s) from if_pos hE, hE]
    have := setBody_any h1 i hi' (by rw [← hw]; exact hodd) k v c hk hv hc kz vz cz
    rw [← hid] at this
    refine this.mono ?_
    rintro e w' ⟨D', n, rfl, hP, hp, hD, hU⟩
    refine ⟨rfl, pnext_of (s' := s.setn id ((s.n id).setB k.p v.p c.s)) h3 h4 hP ?_ (fun k hk => .inl hk) hD hU⟩
    rw [ndsOf_set h2 hid]
    simp only [AS.setn, hn, hw, hp]
  · rw [show s.bodS id k.p v.p c.s = s from if_neg hE]
    obtain ⟨e1, e2⟩ := opE_eq h2 id hE
    rw [← e1]
    exact (setBody_not h1 id k v c e2).mono fun e w' ⟨a1, a2⟩ => ⟨a1, h0.still a2⟩
theorem rx_setB (h : RX W A F s) (id : Int) (k v : TL) (c : IL) (hk : k.Ok W) (hv : v.Ok W) (hc : c.Ok W) (kz : k.L.length * 24 ≤ 140737488352000) (vz : v.L.length * 24 ≤ 140737488352000) (cz : c.s.length * 8 ≤ 140737488352000) :
    Calls Try.prog 36 #[.pointer (some ⟨A, 0, none⟩), .int .i64 id, .agg #[k.v, v.v, c.v]] W fun e w' => e = .returned (.int .i64 (s.unlE id)) ∧ RNext W A F (s.bodS id k.p v.p c.s) w' := by
  have h0 := h
  obtain ⟨g, c0, M, D, L, h1, h2, h3, h4⟩ := h
  by_cases hE : s.unlE id = 0
  · obtain ⟨hin, hodd⟩ := unl_in hE
    obtain ⟨i, hi, hid, _⟩ := AS.idx hin
    have hi' : i < L.length := by rw [ndsR_lenS h2]; exact hi
    obtain ⟨hw, hn⟩ := ndsR_at h2 hi' hid
    rw [show s.bodS id k.p v.p c.s = s.setn id ((s.n id).setB k.p v.p c.s) from if_pos hE, hE]
    have := rsetBody_any h1 i hi' (by rw [← hw]; exact hodd) k v c hk hv hc kz vz cz
    rw [← hid] at this
    refine this.mono ?_
    rintro e w' ⟨D', n, rfl, hP, hp, hD, hU⟩
    refine ⟨rfl, rnext_of (s' := s.setn id ((s.n id).setB k.p v.p c.s)) h3 h4 hP ?_ (fun k hk => .inl hk) hD hU⟩
    rw [ndsR_set h2 hid]
    simp only [AS.setn, hn, hw, hp]
  · rw [show s.bodS id k.p v.p c.s = s from if_neg hE, ← heE_eq h2]
    exact (rsetBody_not h1 id k v c (by rw [heE_eq h2]; exact hE)).mono fun e w' ⟨a1, a2⟩ => ⟨a1, h0.still a2⟩
end
/-! ### New -/
def AS.new (nodes : Int) : AS := ⟨nodes, 1, [(0, NP.zero)]⟩
def NewP (w : World) (nodes : Int) (e : Ending) (w' : World) : Prop := ∃ A F, e = .returned (.tuple #[.pointer (some ⟨A, 0, none⟩), .int .i64 0]) ∧ PX w' A F (AS.new nodes) ∧ (∀ k, F k → w.heap.size ≤ k) ∧ Below w.heap.size w w'
def NewR (w : World) (nodes : Int) (e : Ending) (w' : World) : Prop := ∃ A F, e = .returned (.tuple #[.pointer (some ⟨A, 0, none⟩), .int .i64 0]) ∧ RX w' A F (AS.new nodes) ∧ (∀ k, F k → w.heap.size ≤ k) ∧ Below w.heap.size w w'
theorem px_new (nodes : Int) (w : World) (h1 : 1 ≤ nodes) (h2 : nodes ≤ 65536) : Calls Try.prog 12 #[.int .i64 nodes] w (NewP w nodes) := by
  refine (new_good nodes w h1 h2).mono ?_
  rintro e w' ⟨A, b, M, rfl, hP, hM, hB⟩
  refine ⟨A, M, rfl, ⟨M, Noth, _, hP, rfl, fun k hk => ?_, fun k hk => hP.lt k (.inl hk)⟩, hM, hB⟩
  rcases hk with hk | hk
  · exact hk
  · exact hk.elim
theorem rx_new (nodes : Int) (w : World) (h1 : 1 ≤ nodes) (h2 : nodes ≤ 65536) : Calls Try.prog 29 #[.int .i64 nodes] w (NewR w nodes) := by
  refine (rnew_good nodes w h1 h2).mono ?_
  rintro e w' ⟨A, g, c, M, rfl, hP, hM, hB⟩
  refine ⟨A, M, rfl, ⟨g, c, M, Noth, _, hP, rfl, fun k hk => ?_, fun k hk => hP.lt k (.inl hk)⟩, hM, hB⟩
  rcases hk with hk | hk
  · exact hk
  · exact hk.elim

end Go.Proofs.Ytfpogjgbmibmcaa
