/- Entries that their owner spoils; how many keys nodes of a script have. -/
import Derived.Test.YtibifkindpgkgaaGreatHSSameE
import Derived.Test.YtibifkindpgkgaaGreatG30
import Derived.Test.YtibifkindpgkgaaGreatG24
namespace Go.Proofs.YtibifkindpgkgaaGreat
open Go.RowKit
set_option maxRecDepth 100000

/-- Entries while they are spoiled: their row stands, their texts are bytes. -/
structure SpE (W0 : World) (w : World) (N M g : Nat) (cur : Array Value) (E : List En) : Prop where
  blk : w.heap[g]? = some (.cells cur 41 (0, 0))
  cur : ∀ j (h : j < E.length), cur[j * 2]? = some E[j].1.v ∧ cur[j * 2 + 1]? = some E[j].2.v
  bk : ∀ j (h : j < E.length), Bk w N M E[j].1.a E[j].1.s.length ∧ Bk w N M E[j].2.a E[j].2.s.length
  up : Upd (fun b => N ≤ b) W0 w
theorem SpE.byte {W0 w : World} {N M g : Nat} {cur : Array Value} {E : List En} (h : SpE W0 w N M g cur E) {g2 k : Nat} {c2 : Array Value} (hN : N ≤ g2) (hg : w.heap[g2]? = some (.cells c2 5 (0, 0))) (hb : ∀ u ∈ c2.toList, IsByte u) (x : Int) : SpE W0 (w.setCell ⟨g2, k, none⟩ (.int .u8 x)) N M g cur E := by
  have hne : g ≠ g2 := fun e => by have := h.blk; rw [e, hg] at this; cases this
  exact ⟨(Below.heap_setCell _ _ _ _ hne).trans h.blk, h.cur, fun j hj => ⟨(h.bk j hj).1.byte hg hb x, (h.bk j hj).2.byte hg hb x⟩, h.up.trans ((Upd.refl _ _).setCell _ _ (fun _ => hN))⟩
theorem SpE.of {w : World} {N : Nat} {oa : Option Addr} {n oc : Nat} {E : List En} (hrow : w.ownsRow N 41 2 (.slice oa n oc) E.length (E.flatMap EnC)) (hown : EnO w N E) (h0 : 0 < E.length) : ∃ g cur, oa = some ⟨g, 0, none⟩ ∧ SpE w w N w.heap.size g cur E := by
  rcases hrow.2 with ⟨q1, q2⟩ | ⟨g, cap, cur, q1, q2, q3, q4, q5, q6, q7⟩
  · omega
  · simp only [Value.slice.injEq] at q1
    refine ⟨g, cur, q1.1, q3, fun j h => ?_, fun j h => ?_, Upd.refl _ _⟩
    · have e0 := enC_at E j 0 h (by omega)
      have e1 := enC_at E j 1 h (by omega)
      have cl : ∀ k u, (E.flatMap EnC)[k]? = some u → cur[k]? = some u := fun k u hu => by
        rw [← Array.getElem?_toList]
        rw [← q7, List.getElem?_take] at hu
        split at hu
        · exact hu
        · cases hu
      exact ⟨cl _ _ e0, cl _ _ e1⟩
    · have ho := hown E[j] (List.getElem_mem h)
      exact ⟨bk_own ho.1.o ho.1.z, bk_own ho.2.o ho.2.z⟩
/-- No node has more keys than B. -/
def KsB (B : Nat) (s : AS) : Prop := ∀ id, (s.n id).ks.length ≤ B
theorem ksb_set {B : Nat} {s : AS} (h : KsB B s) (r : Int) (i : Nat) (x : Nat) (p : NP) (hp : p.ks.length ≤ B) : KsB B ⟨s.nodes, r, s.sl.set i (x, p)⟩ := fun id => by
  have h1 := h id
  unfold AS.n at h1 ⊢
  rw [List.getD_eq_getElem?_getD] at h1 ⊢
  simp only
  rw [List.getElem?_set]
  split
  · split
    · exact hp
    · exact Nat.zero_le _
  · exact h1
theorem ksb_setw {B : Nat} {s : AS} (h : KsB B s) (id : Int) (x : Nat) : KsB B (s.setw id x) := ksb_set h _ _ _ _ (h id)
theorem ksb_lock {B : Nat} {s : AS} (h : KsB B s) (id : Int) (x : Nat) : KsB B (s.lockS id x) := by unfold AS.lockS; split; exact ksb_setw h _ _; exact h
theorem ksb_unl {B : Nat} {s : AS} (h : KsB B s) (id : Int) (c : Bool) : KsB B (s.unlS id c) := by unfold AS.unlS; split; exact ksb_setw h _ _; exact h
theorem ksb_hed {B : Nat} {s : AS} (h : KsB B s) (id a : Int) (b : List Int) (c : Int) : KsB B (s.hedS id a b c) := by unfold AS.hedS; split; exact ksb_set h _ _ _ _ (h id); exact h
theorem ksb_bod {B : Nat} {s : AS} (h : KsB B s) (id : Int) (ks vs : List (List Int)) (cs : List Int) (hk : ks.length ≤ B) : KsB B (s.bodS id ks vs cs) := by unfold AS.bodS; split; exact ksb_set h _ _ _ _ hk; exact h
theorem ksb_gro {B : Nat} {s : AS} (h : KsB B s) (a b : Int) : KsB B (s.groS a b) := by unfold AS.groS; split; exact h; exact h
theorem ksb_all {B : Nat} {s : AS} (h : KsB B s) : KsB B s.allS := by
  unfold AS.allS
  split
  · intro id
    have h1 := h id
    unfold AS.n at h1 ⊢
    rw [List.getD_eq_getElem?_getD] at h1 ⊢
    simp only
    rw [List.getElem?_append]
    split
    · exact h1
    · rcases Nat.eq_zero_or_pos ((id - 1).toNat - s.sl.length) with e | e
      · rw [e]; exact Nat.zero_le _
      · rw [List.getElem?_eq_none (by simp; omega)]; exact Nat.zero_le _
  · exact h
theorem ksb_fin {B : Nat} {s : AS} (h : KsB B s) (id : Int) (p : NP) (hp : p.ks.length ≤ B) : KsB B (s.finS id p) := ksb_unl (ksb_bod (ksb_hed h _ _ _ _) _ _ _ _ hp) _ _
theorem ksb_raw {B : Nat} {s : AS} (h : KsB B s) (o : AOp) (ho : o.n.ks.L.length ≤ B) : KsB B (s.raw o) := by
  have hp : o.n.ks.p.length ≤ B := by rw [TL.p_len]; exact ho
  unfold AS.raw
  split
  · exact ksb_all h
  split
  · exact h
  split
  · exact ksb_lock h _ _
  split
  · exact ksb_unl h _ _
  split
  · exact ksb_hed h _ _ _ _
  split
  · exact ksb_bod h _ _ _ _ hp
  split
  · exact ksb_gro h _ _
  split
  · unfold AS.layS
    split
    · split
      · exact ksb_fin (ksb_all h) _ _ hp
      · exact h
    · exact ksb_fin (ksb_lock h _ _) _ _ hp
  · exact ksb_lock h _ _
theorem ksb_run {B : Nat} : ∀ (L : List AOp) (s : AS), KsB B s → (∀ o ∈ L, o.n.ks.L.length ≤ B) → KsB B (s.run L)
  | [], _, h, _ => h
  | o :: L, s, h, ho => ksb_run L (s.raw o) (ksb_raw h o (ho o List.mem_cons_self)) (fun x hx => ho x (List.mem_cons_of_mem _ hx))
theorem ksb_new (B : Nat) (n : Int) : KsB B (AS.new n) := fun id => by
  unfold AS.n AS.new
  simp only
  rw [List.getD_eq_getElem?_getD]
  rcases Nat.eq_zero_or_pos (id - 1).toNat with e | e
  · rw [e]; exact Nat.zero_le _
  · rw [List.getElem?_eq_none (by simp; omega)]; exact Nat.zero_le _
end Go.Proofs.YtibifkindpgkgaaGreat
