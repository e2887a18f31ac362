/- Texts of one's own. -/
import Derived.Test.YtealejbfloacpaaGreatM37
import Derived.Test.YtealejbfloacpaaGreatM30
namespace Go.Proofs.YtealejbfloacpaaGreat
open Go.RowKit
set_option maxRecDepth 100000
theorem mapV_cons (x : List Int × List Int) (r : List (List Int × List Int)) (key : List Int) : mapV (x :: r) key = if x.1 = key then some x.2 else mapV r key := by
 unfold mapV
 rw [List.find?_cons]
 by_cases h : x.1 = key
 ·rw [if_pos h, decide_eq_true h]; rfl
 ·rw [if_neg h, decide_eq_false h]
def GvlP (W : World) (o : Option (List Int)) (e : Ending) (w' : World) : Prop := ∃ (t : Tx) (b : Bool), e = .returned (.tuple #[t.v, .bool b]) ∧ t.Ok w' ∧ b = o.isSome ∧ t.s = o.getD [] ∧ ∃ m, w' = W.drewN m
set_option maxRecDepth 100000 in
set_option maxHeartbeats 3200000 in
theorem gmapv_any (oa : Option Addr) (n oc : Nat) (E : List En) (key : Tx) (W : World) (h1 : E.length = n) (hz : (n : Int) ≤ 9223372036854775807) (r1 : EnRd W oa E) (hk : key.Ok W) :
  Calls Tryz.prog 19 #[.slice oa n oc, key.v] W (GvlP W (mapV (E.map enP) key.s)) := by
 obtain ⟨qa, qc, qz⟩ := key
 simp only [Tx.v]
 obtain ⟨ql, hql⟩ : ∃ z, qz.length = z := ⟨_, rfl⟩
 rw [hql]
 have HQL := hide hql
 have HR1 := hide r1
 have H1 := hide h1
 have HK := hide hk
 obtain ⟨o, ho⟩ : ∃ o, o = mapV (E.map enP) qz := ⟨_, rfl⟩
 rw [← ho]
 have H0 : Hid (o = mapV ((E.drop 0).map enP) qz) := ho
 clear r1 h1 hk hql ho
 go_enter Tryz.func19, Tryz.ntmps19
 go_wp2_with fail
 go_loopw [6] (fun q6 wr => ∃ j : Nat, j ≤ n ∧ q6 = .int .i64 (j : Int) ∧ Hid (o = mapV ((E.drop j).map enP) qz ∧ ∃ m, wr = W.drewN m)) (fun q6 _ => n - (intOf q6).toNat)
 case atStart => exact ⟨0, Nat.zero_le _, rfl, H0.out, 0, rfl⟩
 case round =>
  clear H0
  obtain ⟨j, hj, rfl, HI⟩ := hrel
  rename World => wr
  by_cases hlt : j < n
  ·have j1 : (j : Int) < (n : Int) := by omega
   have hb : Below W.heap.size W wr := by obtain ⟨_, m, hm⟩ := HI.out; rw [hm]; exact below_drewN (Below.refl _ _) m
   have ha1 : j < E.length := by rw [H1.out]; exact hlt
   obtain ⟨g1, hoa, c1, c2, o1, o2⟩ := HR1.out.below hb j ha1
   have HO : Hid (o = if E[j].1.s = qz then some E[j].2.s else mapV ((E.drop (j + 1)).map enP) qz) := by
    show _ = _
    rw [HI.out.1, List.drop_eq_getElem_cons ha1, List.map_cons, mapV_cons]
    rfl
   have o3 : (⟨qa, qc, qz⟩ : Tx).Ok wr := HK.out.below hb
   subst hoa
   generalize E[j] = x at *
   obtain ⟨⟨ka, kc, kz⟩, ⟨va, vc, vz⟩⟩ := x
   simp only [Tx.v] at c1 c2
   obtain ⟨kl, hkl⟩ : ∃ z, kz.length = z := ⟨_, rfl⟩
   obtain ⟨vl, hvl⟩ : ∃ z, vz.length = z := ⟨_, rfl⟩
   rw [hkl] at c1
   rw [hvl] at c2
   have k1 : ∀ q, (convert 23 9 (.slice ka kl kc)).run Tryz.prog (wr.drewN q) = .ok (.string (strOfNums kz)) (wr.drewN q) := fun q => nconv_row kc hkl (o1.drewN q).r
   have k2 : ∀ q, (convert 23 9 (.slice qa ql qc)).run Tryz.prog (wr.drewN q) = .ok (.string (strOfNums qz)) (wr.drewN q) := fun q => nconv_row qc HQL.out (o3.drewN q).r
   by_cases heq : kz = qz
   ·have HF : Hid (∀ q, GvlP W o (.returned (.tuple #[.slice va vl vc, .bool true])) (wr.drewN q)) := fun q => by
     have h2 := HO.out
     rw [if_pos heq] at h2
     obtain ⟨_, m, hm⟩ := HI.out
     refine ⟨⟨va, vc, vz⟩, true, by simp only [Tx.v, hvl], o2.drewN q, by rw [h2]; rfl, by rw [h2]; rfl, m + q, by rw [hm]; exact World.drewN_drewN _ _ _⟩
    rw [heq] at k1
    generalize strOfNums qz = s1 at *
    clear hb o1 o2 o3 hkl hvl ha1 HO heq HI
    go_wp2_with fail
    go_quiet (fail)
    go_wp2_with fail
    go_ret2
    exact HF.out _
   ·have hs1 : ((strOfNums kz).toList == (strOfNums qz).toList) = false := by rw [str_eq o1.b8 o3.b8, decide_eq_false heq]
    have HN : Hid (∀ q, o = mapV ((E.drop (j + 1)).map enP) qz ∧ ∃ m, wr.drewN q = W.drewN m) := fun q => by
     have h2 := HO.out
     rw [if_neg heq] at h2
     obtain ⟨_, m, hm⟩ := HI.out
     exact ⟨h2, _, by rw [hm]; exact World.drewN_drewN _ _ _⟩
    generalize strOfNums kz = s1 at *
    generalize strOfNums qz = s2 at *
    clear hb o1 o2 o3 hkl hvl ha1 HO heq HI
    go_wp2_with fail
    go_quiet (fail)
    go_wp2_with fail
    go_roundw
    case rel => exact ⟨j + 1, by omega, by go_num, HN.out _⟩
    case measure => simp [intOf]; omega
  ·have j1 : ¬ (j : Int) < (n : Int) := by omega
   have HF : Hid (GvlP W o (.returned (.tuple #[.slice none 0 0, .bool false])) wr) := by
    obtain ⟨h2, m, hm⟩ := HI.out
    rw [show j = E.length by rw [H1.out]; omega, List.drop_length] at h2
    exact ⟨nilT, false, rfl, (TOwn.nil _ 0).ok, by rw [h2]; rfl, by rw [h2]; rfl, m, hm⟩
   clear HI
   go_wp2_with fail
   go_ret2
   exact HF.out
theorem gfive_of {W : World} {b : Nat} {T : TypeId} {x0 x1 x2 x3 x4 : Value} (h : W.heap[b]? = some (.cells #[x0, x1, x2, x3, x4] T (0, 0))) : W.cell? ⟨b, 0, none⟩ = some x0 ∧ W.cell? ⟨b, 1, none⟩ = some x1 ∧ W.cell? ⟨b, 2, none⟩ = some x2 ∧ W.cell? ⟨b, 3, none⟩ = some x3 ∧ W.cell? ⟨b, 4, none⟩ = some x4 := by
 refine ⟨?_, ?_, ?_, ?_, ?_⟩ <;> (rw [cell_of_row _ _ _ _ _ _ h]; rfl)
def fiv5 (W : World) (b : Nat) (x0 x1 x2 x3 x4 : Value) : World := ((((W.setCell ⟨b, 0, none⟩ x0).setCell ⟨b, 1, none⟩ x1).setCell ⟨b, 2, none⟩ x2).setCell ⟨b, 3, none⟩ x3).setCell ⟨b, 4, none⟩ x4
theorem fiv_upd (S : Nat → Prop) (W : World) (b : Nat) (x0 x1 x2 x3 x4 : Value) (h : S b) : Upd S W (fiv5 W b x0 x1 x2 x3 x4) :=
 (((((Upd.refl S W).setCell _ _ (fun _ => h)).setCell _ _ (fun _ => h)).setCell _ _ (fun _ => h)).setCell _ _ (fun _ => h)).setCell _ _ (fun _ => h)
set_option maxHeartbeats 800000 in
theorem gwide_any (w : World) : Calls Tryz.prog 14 #[] w fun e w' => e = .returned (.agg #[.int .i64 60, .int .i64 64, .int .i64 64, .int .i64 1, .int .i64 1]) ∧ Below w.heap.size w w' := by
 obtain ⟨w1, hw1⟩ : ∃ x, x = w.alloc (.cells #[.int .i64 0, .int .i64 0, .int .i64 0, .int .i64 0, .int .i64 0] 49) := ⟨_, rfl⟩
 have b1 : Below w.heap.size w w1 := by rw [hw1]; exact (Below.refl _ _).alloc (Nat.le_refl _) _
 have g1 : w1.heap[w.heap.size]? = some (.cells #[.int .i64 0, .int .i64 0, .int .i64 0, .int .i64 0, .int .i64 0] 49 (0, 0)) := by rw [hw1]; exact heap_alloc_new w _
 have HW1 : Hid (w.alloc (.cells #[.int .i64 0, .int .i64 0, .int .i64 0, .int .i64 0, .int .i64 0] 49) = w1) := hw1.symm
 have HG := hide g1
 have U6 : Upd (fun b => b = w.heap.size) w1 (fiv5 w1 w.heap.size (.int .i64 60) (.int .i64 64) (.int .i64 64) (.int .i64 1) (.int .i64 1)) := fiv_upd _ _ _ _ _ _ _ _ rfl
 have B6 := hide (b1.trans (U6.below b1.size (fun k hk e => by omega)))
 obtain ⟨y0, y1, y2, y3, y4⟩ := gfive_of g1
 have F5 := fun j => frozen_of g1 j
 clear b1 hw1 U6 g1
 go_enter Tryz.func14, Tryz.ntmps14
 go_upto_region 1 with fail
 rw [HW1.out]
 go_wp2_with fail
 (try simp only [Exit.inBlock, Exit.then])
 show bodyPost _ _ _ _ _ (fiv5 w1 w.heap.size (.int .i64 60) (.int .i64 64) (.int .i64 64) (.int .i64 1) (.int .i64 1))
 have HQ : (fiv5 w1 w.heap.size (.int .i64 60) (.int .i64 64) (.int .i64 64) (.int .i64 1) (.int .i64 1)).heap[w.heap.size]? = some (.cells #[.int .i64 60, .int .i64 64, .int .i64 64, .int .i64 1, .int .i64 1] 49 (0, 0)) := by
  have := block_setCell (block_setCell (block_setCell (block_setCell (block_setCell HG.out 0 (.int .i64 60)) 1 (.int .i64 64)) 2 (.int .i64 64)) 3 (.int .i64 1)) 4 (.int .i64 1)
  exact this
 obtain ⟨q0, q1, q2, q3, q4⟩ := gfive_of HQ
 exact bodyPost_ret (v := .agg #[.int .i64 60, .int .i64 64, .int .i64 64, .int .i64 1, .int .i64 1]) (by simp [results, Tryz.results14, go_sem, q0, q1, q2, q3, q4]) rfl ⟨rfl, B6.out⟩
end Go.Proofs.YtealejbfloacpaaGreat
