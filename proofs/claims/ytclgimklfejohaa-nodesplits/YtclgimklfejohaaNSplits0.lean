/- NodeSplits: Over of the document; Split of both at one stroke; what may be spoiled. -/
import Derived.Test.YtclgimklfejohaaNSplit2
import Derived.Test.YtclgimklfejohaaNRSplitL
import Derived.Test.YtclgimklfejohaaNRSplitI
import Derived.Test.YtclgimklfejohaaNRSplitF
import Derived.Test.YtclgimklfejohaaNSpoil2
import Derived.Test.YtclgimklfejohaaNMay3
namespace Go.Proofs.Ytclgimklfejohaa
open Go.RowKit

set_option maxRecDepth 100000 in
set_option maxHeartbeats 1600000 in
theorem rover_any (n : Nd) (nd lf inn fl bk : Int) (w : World) : Calls Try.prog 12 #[n.v, .agg #[.int .i64 nd, .int .i64 lf, .int .i64 inn, .int .i64 fl, .int .i64 bk]] w fun e w' => e = .returned (.bool (decide (OvP n.lv n.ks.L.length n.cs.s.length lf inn))) ∧ Below w.heap.size w w' := by
  obtain ⟨lv, ⟨ha, hc, hs⟩, ri, ⟨ka, kc, K⟩, ⟨va, vc, V⟩, ⟨ca, cc, C⟩⟩ := n
  simp only [Nd.v, Tx.v, TL.v, IL.v, OvP]
  generalize hs.length = lh at *
  generalize K.length = lk at *
  generalize V.length = lw at *
  generalize C.length = lc at *
  have HB : Hid (Below w.heap.size w ((w.alloc (.cells #[.int .i64 lv, .slice ha lh hc, .int .i64 ri, .slice ka lk kc, .slice va lw vc, .slice ca lc cc] 30)).alloc (.cells #[.int .i64 nd, .int .i64 lf, .int .i64 inn, .int .i64 fl, .int .i64 bk] 32))) := ((Below.refl _ _).alloc (Nat.le_refl _) _).alloc (by simp) _
  by_cases h : lv = 0
  · subst h
    go_enter Try.func12, Try.ntmps12
    go_wp2_with fail
    go_ret
    exact ⟨by simp, HB.out⟩
  · go_enter Try.func12, Try.ntmps12
    go_wp2_with fail
    go_ret
    exact ⟨by simp, HB.out⟩
def NP.s1 (p : NP) (right : Int) : NP := if p.wd < 2 then p else p.one right
def NP.s2 (p : NP) : NP := if p.wd < 2 then NP.zero else p.two
def NP.s3 (p : NP) : List Int := if p.wd < 2 then [] else p.bet
theorem split_all (n : Nd) (right : Int) (w : World) (hn : n.Ok w) : Calls Try.prog 10 #[n.v, .int .i64 right] w (SplP w (n.p.s1 right) n.p.s2 n.p.s3) := by
  unfold NP.s1 NP.s2 NP.s3
  by_cases h : n.p.wd < 2
  · rw [if_pos h, if_pos h, if_pos h]; exact split_few n right w hn h
  · rw [if_neg h, if_neg h, if_neg h]; exact split_any n right w hn (by omega)
theorem rsplit_all (n : Nd) (right : Int) (w : World) (hn : n.Ok w) (hR : RtP n.p) : Calls Try.prog 13 #[n.v, .int .i64 right] w (RspP w (n.p.s1 right) n.p.s2 n.p.s3) := by
  unfold NP.s1 NP.s2 NP.s3
  by_cases h : n.p.wd < 2
  · rw [if_pos h, if_pos h, if_pos h]; exact rsplit_few n right w hn hR h
  · rw [if_neg h, if_neg h, if_neg h]
    rcases hR.2 with h1 | h1
    · exact rsplit_leaf n right w hn hR h1.1 (by omega)
    · exact rsplit_inner n right w hn hR h1.1 (by omega)
theorem bk_in {W : World} {N M K l : Nat} {a : Option Addr} (h : Bk W N K a l) (hi : ∀ x, a = some x → 0 < l → N ≤ x.block ∧ x.block < M) : Bk W N M a l := by
  refine ⟨h.1, ?_⟩
  by_cases h0 : l = 0
  · exact .inl h0
  · rcases h.2 with h2 | ⟨g, cur, h2, _, h3, h4, h5⟩
    · exact .inl h2
    · exact .inr ⟨g, cur, h2, hi _ h2 (by omega), h3, h4, h5⟩
theorem tbk_in {W : World} {N M : Nat} {t : TL} (h : t.Own W N) (hz : t.L.length * 24 ≤ 140737488352000) (hk : ∀ x, t.a = some x → 0 < t.L.length → N ≤ x.block ∧ x.block < M) (he : ∀ s ∈ t.L, ∀ x, s.a = some x → 0 < s.s.length → N ≤ x.block ∧ x.block < M) : TBk W N M t.a t.L.length := by
  refine ⟨by omega, ?_⟩
  have hr := h.row
  by_cases hl0 : t.L.length = 0
  · exact .inl hl0
  rcases hr.2 with ⟨_, h0⟩ | ⟨g, c, cur, hv, hN, hh, h1, _, h3, h4⟩
  · exact .inl h0
  · right
    simp only [TL.v, Value.slice.injEq] at hv
    refine ⟨g, cur, hv.1, hk _ hv.1 (by omega), hh, by omega, fun i hi => ?_⟩
    refine ⟨t.L[i].a, t.L[i].s.length, t.L[i].c, ?_, bk_in (bk_own (h.each _ (List.getElem_mem hi)) (h.b8 _ (List.getElem_mem hi)).2) (he _ (List.getElem_mem hi))⟩
    have : (cur.toList.take (t.L.length * 1))[i]? = some t.L[i].v := by rw [h4]; simp [hi]
    rw [List.getElem?_take, if_pos (by omega)] at this
    simpa [Tx.v] using this
theorem ibk_in {W : World} {N M K l : Nat} {a : Option Addr} (h : IBk W N K a l) (hi : ∀ x, a = some x → 0 < l → N ≤ x.block ∧ x.block < M) : IBk W N M a l := by
  refine ⟨h.1, ?_⟩
  by_cases h0 : l = 0
  · exact .inl h0
  · rcases h.2 with h2 | ⟨g, cur, h2, _, h3, h4, h5⟩
    · exact .inl h2
    · exact .inr ⟨g, cur, h2, hi _ h2 (by omega), h3, h4, h5⟩
theorem Nd.Own.spoIn {W : World} {N M : Nat} {n : Nd} (h : n.Own W N) (hi : n.In (fun x => N ≤ x ∧ x < M)) : Spo W N M n :=
  ⟨bk_in (bk_own h.h h.hb.2) hi.h, tbk_in h.k h.kz hi.k hi.ke, tbk_in h.v h.vz hi.v hi.ve, ibk_in (ibk_own h.c h.cz) hi.c⟩
theorem Nd.In.both {D E : Nat → Prop} {n : Nd} (h : n.In D) (k : n.In E) : n.In (fun x => D x ∧ E x) :=
  ⟨fun x e l => ⟨h.h x e l, k.h x e l⟩, fun x e l => ⟨h.k x e l, k.k x e l⟩, fun t ht x e l => ⟨h.ke t ht x e l, k.ke t ht x e l⟩, fun x e l => ⟨h.v x e l, k.v x e l⟩, fun t ht x e l => ⟨h.ve t ht x e l, k.ve t ht x e l⟩, fun x e l => ⟨h.c x e l, k.c x e l⟩⟩
end Go.Proofs.Ytclgimklfejohaa
