/- BlockBuilders: one Add on both sides, over the view. -/
import Derived.Test.YtjnldmbjeiejdaaBView
import Derived.Test.YtjnldmbjeiejdaaBLaw
namespace Go.Proofs.Ytjnldmbjeiejdaa
open Go.RowKit

theorem below_drew1 (w : World) : Below w.heap.size w w.drew := ⟨rfl, rfl, rfl, Nat.le_refl _, fun _ _ => rfl⟩

section
variable {w w1 w2 w3 W W' : World} {gx gy k : Nat} {xs cs : Array Value} {g : Nat} {M : Nat → Prop} {l : List KV} {v : Value} {E : List Ent} {g' : Nat} {M' : Nat → Prop} {l' : List KV} {v' : Value} {E' : List Ent} {en : Ent} {gk gv gm nk nv : Nat}

theorem cp1_cells {N ga : Nat} (h : ElOk W N ga [cpE en gk gv, mkE gm]) (hnk : en.ks.length = nk) (hnv : en.vs.length = nv) : W.cell? ⟨ga, 0, none⟩ = some (.slice (some ⟨gk, 0, none⟩) nk (nk + 1)) ∧ W.cell? ⟨ga, 1, none⟩ = some (.slice (some ⟨gv, 0, none⟩) nv (nv + 1)) := by
  obtain ⟨cur, q1, q2, q3⟩ := h.eb
  have q4 := q3 0 (by simp)
  subst hnk hnv
  exact ⟨by rw [cell_of_row _ _ _ _ _ _ q1]; exact q4.1, by rw [cell_of_row _ _ _ _ _ _ q1]; exact q4.2⟩

theorem cp1_young {N ga : Nat} (hel : ElOk W N ga [cpE en gk gv, mkE gm]) : N ≤ gk ∧ N ≤ gv := by
  have hok := hel.ok 0 (by simp)
  have hyg : ∀ {v : Value} {zs : List Int}, OwnB W N 5 v zs → ∀ i, v.ownBlock = some i → N ≤ i := fun h i hi => by
    obtain ⟨_, _, _, _, _, q⟩ := h.sliceN rfl
    exact (q i hi).1
  exact ⟨hyg hok.1 gk (by simp [cpE, Ent.kv, Value.ownBlock]), hyg hok.2 gv (by simp [cpE, Ent.vv, Value.ownBlock])⟩
theorem one_ens {b : Nat} {T : TypeId} (h : W.heap[b]? = some (.cells #[.slice en.ka nk en.kc, .slice en.va nv en.vc] T (0, 0))) (hnk : en.ks.length = nk) (hnv : en.vs.length = nv) (ok : en.Ok W) : Ens W b 0 [en] := by
  subst hnk hnv
  refine ⟨fun i hi => ?_, fun i hi => ?_, fun i hi => ?_⟩
  all_goals obtain rfl : i = 0 := by simp at hi; omega
  · rw [cell_of_row _ _ _ _ _ _ h]; rfl
  · rw [cell_of_row _ _ _ _ _ _ h]; rfl
  · exact ok

theorem badd1 (V1 : BV w w1 gx gy k xs cs g M l v E g' M' l' v' E') (hel : ElOk w2 w1.heap.size w1.heap.size [cpE en gk gv, mkE gm]) (b2 : Below w1.heap.size w1 w2) (ok : en.Ok w1) (hnk : en.ks.length = nk) (hnv : en.vs.length = nv) :
    Calls Try.prog 27 #[.pointer (some ⟨g, 0, none⟩), .agg #[.slice (some ⟨gk, 0, none⟩) nk (nk + 1), .slice (some ⟨gv, 0, none⟩) nv (nv + 1)]] w2.drew fun e w3 => e = .returned (.int .i64 (addE l en.ks en.vs)) ∧ ∃ M1, BV w w3 gx gy k xs cs g M1 (addL l en.ks en.vs) v E g' M' l' v' E' ∧ Upd M w2 w3 ∧ ∀ i, M1 i → M i ∨ w2.heap.size ≤ i := by
  have V2 := (V1.below b2).below (below_drew1 w2)
  have hok := hel.ok 0 (by simp)
  have hyg : ∀ {v : Value} {zs : List Int}, OwnB w2 w1.heap.size 5 v zs → ∀ i, v.ownBlock = some i → w1.heap.size ≤ i := fun h i hi => by
    obtain ⟨_, _, _, _, _, q⟩ := h.sliceN rfl
    exact (q i hi).1
  subst hnk hnv
  refine (badd_any (e := cpE en gk gv) V2.b ((cp1_ok hel ok).below (below_drew1 w2)) ?_ ?_).mono ?_
  · intro x hx h0
    cases hx
    exact (V1.young gk (hyg hok.1 gk (by simp [cpE, Ent.kv, Value.ownBlock]))).2.1
  · intro x hx h0
    cases hx
    exact (V1.young gv (hyg hok.2 gv (by simp [cpE, Ent.vv, Value.ownBlock]))).2.1
  · rintro e w3 ⟨rfl, M1, hb, hu, hM⟩
    exact ⟨rfl, M1, V2.prog hb hu hM, (Upd.of_below (below_drew1 w2) M).trans hu, hM⟩

theorem radd1 (V6 : BV w W gx gy k xs cs g M (addL (kvs E) en.ks en.vs) v E g' M' l' v' E') (ok : en.Ok W) (hsep : ∀ x, (en.ka = some x ∧ 0 < en.ks.length) ∨ (en.va = some x ∧ 0 < en.vs.length) → x.block < w.heap.size) (hnk : en.ks.length = nk) (hnv : en.vs.length = nv) :
    Calls Try.prog 28 #[.pointer (some ⟨gy, k, none⟩), .agg #[.slice en.ka nk en.kc, .slice en.va nv en.vc]] W.drew fun e w7 => e = .returned (.int .i64 (addE (kvs E) en.ks en.vs)) ∧ ∃ cs1 v1 E1, BV w w7 gx gy k xs cs1 g M (kvs E1) v1 E1 g' M' l' v' E' := by
  have V7 := V6.below (below_drew1 W)
  subst hnk hnv
  refine (radd_any V7.r en (ok.below (below_drew1 W)) hsep V7.bel.size (if addE (kvs E) en.ks en.vs = 0 then E ++ [en] else E) _ rfl rfl).mono ?_
  rintro e w7 ⟨rfl, cs1, v1, hr, hu, hv, _, hcs⟩
  refine ⟨rfl, cs1, v1, (if addE (kvs E) en.ks en.vs = 0 then E ++ [en] else E), ?_⟩
  have h8 := V7.doc hr hu hv hcs
  have hk : kvs (if addE (kvs E) en.ks en.vs = 0 then E ++ [en] else E) = addL (kvs E) en.ks en.vs := by
    unfold addL
    split <;> simp [kvs]
  rw [hk]
  exact h8

end

end Go.Proofs.Ytjnldmbjeiejdaa
