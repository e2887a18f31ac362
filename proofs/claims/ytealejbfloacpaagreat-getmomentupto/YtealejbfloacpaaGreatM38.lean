/- Texts of one's own. -/
import Derived.Test.YtealejbfloacpaaGreatM35
import Derived.Carry
import Derived.WalkMore
import Derived.Deep.LoopGhost
import Derived.Test.YtealejbfloacpaaGreatM2
import Derived.Test.YtealejbfloacpaaGreatM21
import Derived.Test.YtealejbfloacpaaGreatM16
namespace Go.Proofs.YtealejbfloacpaaGreat
open Go.RowKit
set_option maxRecDepth 100000
theorem rpt_form (b : Bool) (id er lv no en : Int) : rpt b id er lv no en = .agg #[.bool b, .int .i64 id, .int .i64 er, .int .i64 lv, .int .i64 no, .int .i64 en] := rfl
end Go.Proofs.YtealejbfloacpaaGreat
namespace Go.Proofs.YtealejbfloacpaaGreat
open Go.RowKit
set_option maxRecDepth 100000
def AS.rep (s : AS) (nd lf inn fl bk : Int) (v : Value) : Prop :=
 (∃ id er, s.look nd lf inn fl bk = .inl (id, er) ∧ v = rpt false id er 0 0 0) ∨
  ∃ ls c, s.look nd lf inn fl bk = .inr ls ∧ ls.getLast? = some c ∧ v = rpt true 0 0 (ls.length : Nat) ((idsOf ls).length : Nat) ((c.map fun x => (s.n x.1).ks.length).sum : Nat)
def ChP (W : World) (nd lf inn fl bk : Int) (s : AS) (e : Ending) (w' : World) : Prop := ∃ v, e = .returned v ∧ s.rep nd lf inn fl bk v ∧ Below W.heap.size W w'
end Go.Proofs.YtealejbfloacpaaGreat
namespace Go.Proofs.YtealejbfloacpaaGreat
open Go.RowKit
set_option maxRecDepth 100000
set_option maxHeartbeats 400000 in
theorem rwrong_any (id er : Int) (w : World) : Calls Tryz.prog 116 #[.int .i64 id, .int .i64 er] w fun e w' => e = .returned (rpt false id er 0 0 0) ∧ Below w.heap.size w w' := by
 obtain ⟨w1, hw1⟩ : ∃ x, x = w.alloc (.cells #[.bool false, .int .i64 0, .int .i64 0, .int .i64 0, .int .i64 0, .int .i64 0] 42) := ⟨_, rfl⟩
 have b1 : Below w.heap.size w w1 := by rw [hw1]; exact (Below.refl _ _).alloc (Nat.le_refl _) _
 have g1 : w1.heap[w.heap.size]? = some (.cells #[.bool false, .int .i64 0, .int .i64 0, .int .i64 0, .int .i64 0, .int .i64 0] 42 (0, 0)) := by rw [hw1]; exact heap_alloc_new w _
 have HW1 : Hid (w.alloc (.cells #[.bool false, .int .i64 0, .int .i64 0, .int .i64 0, .int .i64 0, .int .i64 0] 42) = w1) := hw1.symm
 obtain ⟨y0, y1, y2, y3, y4, y5⟩ := Six.of g1
 have F5 := fun j => frozen_of g1 j
 have G6 := six_block g1 (.bool false) (.int .i64 id) (.int .i64 er) (.int .i64 0) (.int .i64 0) (.int .i64 0)
 have U6 : Upd (fun b => b = w.heap.size) w1 (six6 w1 w.heap.size (.bool false) (.int .i64 id) (.int .i64 er) (.int .i64 0) (.int .i64 0) (.int .i64 0)) := six_upd _ _ _ _ _ _ _ _ _ rfl
 have B6 := hide (b1.trans (U6.below b1.size (fun k hk e => by omega)))
 have HG6 := hide G6
 clear b1 g1 hw1 U6 G6
 go_enter Tryz.func116, Tryz.ntmps116
 go_upto_region 1 with fail
 rw [HW1.out]
 go_wp2_with fail
 (try simp only [Exit.inBlock, Exit.then])
 obtain ⟨q0, q1, q2, q3, q4, q5⟩ := Six.of HG6.out
 show bodyPost _ _ _ _ _ (six6 w1 w.heap.size (.bool false) (.int .i64 id) (.int .i64 er) (.int .i64 0) (.int .i64 0) (.int .i64 0))
 exact bodyPost_ret (v := rpt false id er 0 0 0) (by simp [results, Tryz.results116, go_sem, q0, q1, q2, q3, q4, q5, rpt]) rfl ⟨rfl, B6.out⟩
set_option maxRecDepth 100000 in
set_option maxHeartbeats 800000 in
theorem has_any (v : IL) (x : Int) (w : World) (hv : v.Ok w) (hz : v.s.length ≤ 65536) : Calls Tryz.prog 70 #[v.v, .int .i64 x] w fun e w' => e = .returned (.bool (decide (x ∈ v.s))) ∧ w' = w := by
 obtain ⟨va, vc, vs⟩ := v
 simp only at hz
 obtain ⟨D, hD⟩ : ∃ D, D = decide (x ∈ vs) := ⟨_, rfl⟩
 have HD : Hid (D = true ↔ x ∈ vs) := by show _ ↔ _; rw [hD, decide_eq_true_iff]
 simp only [IL.v]
 rw [← hD]
 have HV := hide hv
 obtain ⟨l, hl⟩ : ∃ l, vs.length = l := ⟨_, rfl⟩
 rw [hl] at hz ⊢
 have HL := hide hl
 clear hD hv hl
 go_enter Tryz.func70, Tryz.ntmps70
 go_wp2_with fail
 go_loopw [5] (fun q5 wr => ∃ i : Nat, i ≤ l ∧ q5 = .int .i64 (i : Int) ∧ Hid (∀ j, j < i → vs.getD j 0 ≠ x) ∧ w = wr) (fun q5 _ => l - (intOf q5).toNat)
 case atStart => exact ⟨0, Nat.zero_le _, rfl, fun j hj => absurd hj (Nat.not_lt_zero j), rfl⟩
 case round =>
  obtain ⟨i, hi, rfl, HA, rfl⟩ := hrel
  by_cases hlt : i < l
  ·have j1 : (i : Int) < (l : Int) := by omega
   have hiv : i < vs.length := by rw [HL.out]; exact hlt
   obtain ⟨b, o, hva, hcell⟩ := HV.out.r i hiv
   simp only at hva hcell
   subst hva
   obtain ⟨y, hy⟩ : ∃ y, vs.getD i 0 = y := ⟨_, rfl⟩
   rw [hy] at hcell
   have HY := hide hy
   clear hy
   by_cases hyx : y = x
   ·subst hyx
    have hT : D = true := HD.out.2 (by rw [← HY.out, List.getD_eq_getElem?_getD, List.getElem?_eq_getElem hiv]; exact List.getElem_mem hiv)
    subst hT
    go_wp2_with fail
    go_ret
    exact ⟨rfl, rfl⟩
   ·have hyx2 : (y == x) = false := by rw [beq_eq_false_iff_ne]; exact hyx
    go_wp2_with fail
    go_roundw
    case rel =>
     refine ⟨i + 1, by omega, by go_num, fun j hj => ?_, trivial⟩
     rcases Nat.lt_or_ge j i with h | h
     ·exact HA.out j h
     ·obtain rfl : j = i := by omega
      rw [HY.out]; exact hyx
    case measure => simp [intOf]; omega
  ·have j1 : ¬ (i : Int) < (l : Int) := by omega
   obtain rfl : i = l := by omega
   have hF : D = false := by
    cases D with
    | false => rfl
    | true =>
     obtain ⟨j, hj, hjx⟩ := List.getElem_of_mem (HD.out.1 rfl)
     exact absurd (by rw [List.getD_eq_getElem?_getD, List.getElem?_eq_getElem hj]; exact hjx) (HA.out j (by rw [← HL.out]; exact hj))
   subst hF
   go_wp2_with fail
   go_ret
   exact ⟨rfl, rfl⟩
end Go.Proofs.YtealejbfloacpaaGreat
namespace Go.Proofs.YtealejbfloacpaaGreat
open Go.RowKit
set_option maxRecDepth 100000
theorem own_ty {w : World} {N : Nat} {e : TypeId} {size : Nat} {v : Value} {n : Nat} {xs : List Value} (h : w.ownsRow N e size v n xs) {k : Nat} (hk : v.ownBlock = some k) : ∃ cur, w.heap[k]? = some (.cells cur e (0, 0)) ∧ N ≤ k := by
 rcases h.2 with ⟨hv, _⟩ | ⟨g, cap, cur, hv, hb, hh, _⟩
 ·rw [hv] at hk; cases hk
 ·rw [hv] at hk
  cases hk
  exact ⟨cur, hh, hb⟩
def Kp (w w' : World) (b : Nat) : Prop := ∀ k cs T, k ≠ b → T ≠ 3 → T ≠ 23 → w.heap[k]? = some (.cells cs T (0, 0)) → w'.heap[k]? = some (.cells cs T (0, 0))
theorem Kp.trans {w w' w'' : World} {b : Nat} (h : Kp w w' b) (h' : Kp w' w'' b) : Kp w w'' b := fun k cs T h1 h2 h3 h4 => h' k cs T h1 h2 h3 (h k cs T h1 h2 h3 h4)
theorem Kp.of_below {w w' : World} {b : Nat} (h : Below w.heap.size w w') : Kp w w' b := fun k _ _ _ _ _ h4 => (h.block k (lt_of_block h4)).trans h4
theorem Kp.grown {w w' : World} {N b : Nat} {e : TypeId} {v : Value} {n : Nat} {xs : List Value} (h : w.ownsRow N e 1 v n xs) (he : e = 3 ∨ e = 23) (hg : w.grownBy w' v.ownBlock) : Kp w w' b := fun k cs T _ h2 h3 h4 => (hg.block k (lt_of_block h4) (fun e1 => by
 obtain ⟨cur, h5, _⟩ := own_ty h e1.symm
 rw [h4] at h5
 cases h5
 rcases he with rfl | rfl
 ·exact h2 rfl
 ·exact h3 rfl)).trans h4
theorem Kp.set {w w' : World} {b : Nat} (h : Kp w w' b) (j : Nat) (v : Value) : Kp w (w'.setCell ⟨b, j, none⟩ v) b := fun k cs T h1 h2 h3 h4 => by
 rw [Below.heap_setCell _ _ _ _ (by simp only; exact h1)]
 exact h k cs T h1 h2 h3 h4
structure RCh (w : World) (N b : Nat) (F : Nat → Prop) (M : List Int) (ma : Option Addr) (mc : Nat) (lI : IL) (lO : TL) : Prop where
 bl : w.heap[b]? = some (.cells #[lI.v, lO.v] 141 (0, 0))
 oL : w.ownsRow N 3 1 lI.v lI.s.length (lI.s.map (Value.int .i64))
 oO : w.ownsRow N 23 1 lO.v lO.L.length (lO.L.map Tx.v)
 oM : w.ownsRow N 3 1 (.slice ma M.length mc) M.length (M.map (Value.int .i64))
 lm : ∀ k, lI.v.ownBlock = some k → (Value.slice ma M.length mc).ownBlock ≠ some k
 ok : ∀ t ∈ lO.L, t.Ok w
 li : ∀ t ∈ lO.L, ∀ y, t.a = some y → 0 < t.s.length → F y.block
 fN : ∀ k, F k → k < N
 nb : N ≤ b
 nw : N ≤ w.heap.size
section
variable {w w5 w6 : World} {N b : Nat} {F : Nat → Prop} {M : List Int} {ma : Option Addr} {mc : Nat} {lI : IL} {lO : TL}
theorem RCh.below (h : RCh w N b F M ma mc lI lO) (hb : Below w.heap.size w w5) : RCh w5 N b F M ma mc lI lO :=
 ⟨(hb.block _ (lt_of_block h.bl)).trans h.bl, owns_below h.oL hb, owns_below h.oO hb, owns_below h.oM hb, h.lm, fun t ht => (h.ok t ht).below hb, h.li, h.fN, h.nb, Nat.le_trans h.nw hb.size⟩
theorem RCh.txs (h : RCh w N b F M ma mc lI lO) (hb : Below N w w5) : ∀ t ∈ lO.L, t.Ok w5 := fun t ht => (h.ok t ht).updL (S := fun k => N ≤ k) ⟨hb.os, hb.tape, hb.output, hb.size, fun k _ hk => hb.block k (by omega)⟩ (fun y e l e2 => by have := h.fN _ (h.li t ht y e l); omega)
theorem RCh.addM (h : RCh w N b F M ma mc lI lO) (id : Int) {g' c' : Nat} (o6 : w6.ownsRow N 3 1 (.slice (some ⟨g', 0, none⟩) (M.length + 1) c') (M.length + 1) (M.map (Value.int .i64) ++ [.int .i64 id])) (g6 : w.grownBy w6 (Value.slice ma M.length mc).ownBlock) (k6 : (Value.slice ma M.length mc).ownBlock = some g' ∨ w.heap.size ≤ g') :
  RCh w6 N b F (M ++ [id]) (some ⟨g', 0, none⟩) c' lI lO ∧ Kp w w6 b ∧ Below N w w6 := by
 have hB : Below N w w6 := (Below.refl N w).grown g6 h.nw (fun k hk => (own_ty h.oM hk).choose_spec.2)
 have hK : Kp w w6 b := Kp.grown h.oM (.inl rfl) g6
 have hnb : some b ≠ (Value.slice ma M.length mc).ownBlock := fun e => by
  obtain ⟨cur, h5, _⟩ := own_ty h.oM e.symm
  rw [h.bl] at h5
  cases h5
 have hLb : w6.ownsRow N 3 1 lI.v lI.s.length (lI.s.map (Value.int .i64)) := h.oL.kept g6 (by
  cases hk : lI.v.ownBlock with
  | none => exact .inl rfl
  | some k => exact .inr (fun e => h.lm k hk e.symm))
 have hOb : w6.ownsRow N 23 1 lO.v lO.L.length (lO.L.map Tx.v) := h.oO.kept g6 (by
  cases hk : lO.v.ownBlock with
  | none => exact .inl rfl
  | some k => exact .inr (fun e => by
    obtain ⟨c1, h5, _⟩ := own_ty h.oO hk
    obtain ⟨c2, h6, _⟩ := own_ty h.oM e.symm
    rw [h5] at h6
    cases h6))
 refine ⟨⟨(g6.block b (lt_of_block h.bl) hnb).trans h.bl, hLb, hOb, ?_, fun k hk e => ?_, h.txs hB, h.li, h.fN, h.nb, Nat.le_trans h.nw g6.size⟩, hK, hB⟩
 ·rw [List.length_append, List.map_append]; exact o6
 ·cases e
  rcases k6 with k6 | k6
  ·exact h.lm _ hk k6
  ·have := (h.oL.lt _ hk).2; simp only at this; omega
theorem RCh.addL (h : RCh w N b F M ma mc lI lO) (id : Int) {g' c' : Nat} (o6 : w6.ownsRow N 3 1 (.slice (some ⟨g', 0, none⟩) (lI.s.length + 1) c') (lI.s.length + 1) (lI.s.map (Value.int .i64) ++ [.int .i64 id])) (g6 : w.grownBy w6 lI.v.ownBlock) (k6 : lI.v.ownBlock = some g' ∨ w.heap.size ≤ g') :
  RCh (w6.setCell ⟨b, 0, none⟩ (.slice (some ⟨g', 0, none⟩) (lI.s.length + 1) c')) N b F M ma mc ⟨some ⟨g', 0, none⟩, c', lI.s ++ [id]⟩ lO ∧ Kp w (w6.setCell ⟨b, 0, none⟩ (.slice (some ⟨g', 0, none⟩) (lI.s.length + 1) c')) b ∧ Below N w (w6.setCell ⟨b, 0, none⟩ (.slice (some ⟨g', 0, none⟩) (lI.s.length + 1) c')) := by
 have hB6 : Below N w w6 := (Below.refl N w).grown g6 h.nw (fun k hk => (own_ty h.oL hk).choose_spec.2)
 have hB := hB6.setCell (p := ⟨b, 0, none⟩) h.nb (.slice (some ⟨g', 0, none⟩) (lI.s.length + 1) c')
 have hK : Kp w (w6.setCell ⟨b, 0, none⟩ (.slice (some ⟨g', 0, none⟩) (lI.s.length + 1) c')) b := Kp.set (Kp.grown h.oL (.inl rfl) g6) _ _
 have hnb : some b ≠ lI.v.ownBlock := fun e => by
  obtain ⟨cur, h5, _⟩ := own_ty h.oL e.symm
  rw [h.bl] at h5
  cases h5
 have hbl6 := (g6.block b (lt_of_block h.bl) hnb).trans h.bl
 have hg'b : g' ≠ b := fun e => by
  obtain ⟨cur, h5, _⟩ := own_ty o6 (k := g') rfl
  rw [e, hbl6] at h5
  cases h5
 have hM6 : w6.ownsRow N 3 1 (.slice ma M.length mc) M.length (M.map (Value.int .i64)) := h.oM.kept g6 (by
  cases hk : (Value.slice ma M.length mc).ownBlock with
  | none => exact .inl rfl
  | some k => exact .inr (fun e => h.lm k e.symm hk))
 have hO6 : w6.ownsRow N 23 1 lO.v lO.L.length (lO.L.map Tx.v) := h.oO.kept g6 (by
  cases hk : lO.v.ownBlock with
  | none => exact .inl rfl
  | some k => exact .inr (fun e => by
    obtain ⟨c1, h5, _⟩ := own_ty h.oO hk
    obtain ⟨c2, h6, _⟩ := own_ty h.oL e.symm
    rw [h5] at h6
    cases h6))
 have set : ∀ {e : TypeId} {v : Value} {n : Nat} {xs : List Value}, e ≠ 141 → w6.ownsRow N e 1 v n xs → (w6.setCell ⟨b, 0, none⟩ (.slice (some ⟨g', 0, none⟩) (lI.s.length + 1) c')).ownsRow N e 1 v n xs := fun {e v n xs} hne ho => ownsRow_setCell_other ho (fun e1 => by
  obtain ⟨c1, h5, _⟩ := own_ty ho e1
  simp only at h5
  rw [hbl6] at h5
  cases h5
  exact hne rfl) _
 refine ⟨⟨block_setCell hbl6 0 _ |>.trans (by simp [IL.v]), ?_, set (by decide) hO6, set (by decide) hM6, fun k hk e => ?_, h.txs hB, h.li, h.fN, h.nb, Nat.le_trans h.nw (by have := g6.size; simpa using this)⟩, hK, hB⟩
 ·have := set (by decide) o6
  simpa [IL.v] using this
 ·simp only [IL.v, Value.ownBlock, Option.some.injEq] at hk
  subst hk
  rcases k6 with k6 | k6
  ·exact h.lm _ k6 e
  ·have := (h.oM.lt _ e).2; omega
theorem RCh.addO (h : RCh w N b F M ma mc lI lO) (t : Tx) (ht : t.Ok w) (hi : ∀ y, t.a = some y → 0 < t.s.length → F y.block) {g' c' : Nat} (o6 : w6.ownsRow N 23 1 (.slice (some ⟨g', 0, none⟩) (lO.L.length + 1) c') (lO.L.length + 1) (lO.L.map Tx.v ++ [t.v])) (g6 : w.grownBy w6 lO.v.ownBlock) :
  RCh (w6.setCell ⟨b, 1, none⟩ (.slice (some ⟨g', 0, none⟩) (lO.L.length + 1) c')) N b F M ma mc lI ⟨some ⟨g', 0, none⟩, c', lO.L ++ [t]⟩ ∧ Kp w (w6.setCell ⟨b, 1, none⟩ (.slice (some ⟨g', 0, none⟩) (lO.L.length + 1) c')) b ∧ Below N w (w6.setCell ⟨b, 1, none⟩ (.slice (some ⟨g', 0, none⟩) (lO.L.length + 1) c')) := by
 have hB6 : Below N w w6 := (Below.refl N w).grown g6 h.nw (fun k hk => (own_ty h.oO hk).choose_spec.2)
 have hB := hB6.setCell (p := ⟨b, 1, none⟩) h.nb (.slice (some ⟨g', 0, none⟩) (lO.L.length + 1) c')
 have hK : Kp w (w6.setCell ⟨b, 1, none⟩ (.slice (some ⟨g', 0, none⟩) (lO.L.length + 1) c')) b := Kp.set (Kp.grown h.oO (.inr rfl) g6) _ _
 have hnb : some b ≠ lO.v.ownBlock := fun e => by
  obtain ⟨cur, h5, _⟩ := own_ty h.oO e.symm
  rw [h.bl] at h5
  cases h5
 have hbl6 := (g6.block b (lt_of_block h.bl) hnb).trans h.bl
 have oth : ∀ {v : Value} {n : Nat} {xs : List Value}, w.ownsRow N 3 1 v n xs → w6.ownsRow N 3 1 v n xs := fun {v n xs} ho => ho.kept g6 (by
  cases hk : v.ownBlock with
  | none => exact .inl rfl
  | some k => exact .inr (fun e => by
    obtain ⟨c1, h5, _⟩ := own_ty ho hk
    obtain ⟨c2, h6, _⟩ := own_ty h.oO e.symm
    rw [h5] at h6
    cases h6))
 have set : ∀ {e : TypeId} {v : Value} {n : Nat} {xs : List Value}, e ≠ 141 → w6.ownsRow N e 1 v n xs → (w6.setCell ⟨b, 1, none⟩ (.slice (some ⟨g', 0, none⟩) (lO.L.length + 1) c')).ownsRow N e 1 v n xs := fun {e v n xs} hne ho => ownsRow_setCell_other ho (fun e1 => by
  obtain ⟨c1, h5, _⟩ := own_ty ho e1
  simp only at h5
  rw [hbl6] at h5
  cases h5
  exact hne rfl) _
 have htx : t.Ok (w6.setCell ⟨b, 1, none⟩ (.slice (some ⟨g', 0, none⟩) (lO.L.length + 1) c')) := ht.updL (S := fun k => N ≤ k) ⟨hB.os, hB.tape, hB.output, hB.size, fun k _ hk => hB.block k (by omega)⟩ (fun y e l e2 => by have := h.fN _ (hi y e l); omega)
 refine ⟨⟨block_setCell hbl6 1 _ |>.trans (by simp [TL.v]), set (by decide) (oth h.oL), ?_, set (by decide) (oth h.oM), h.lm, fun u hu => ?_, fun u hu => ?_, h.fN, h.nb, Nat.le_trans h.nw (by have := g6.size; simpa using this)⟩, hK, hB⟩
 ·have := set (by decide) o6
  simpa [TL.v] using this
 ·rcases List.mem_append.1 hu with hu | hu
  ·exact h.txs hB u hu
  ·rw [List.mem_singleton.1 hu]; exact htx
 ·rcases List.mem_append.1 hu with hu | hu
  ·exact h.li u hu
  ·rw [List.mem_singleton.1 hu]; exact hi
end
structure RQ (S : Nat → Prop) (W w : World) (vM vL vO : Value) : Prop where
 up : Upd S W w
 sM : ∀ k, vM.ownBlock = some k → S k ∨ W.heap.size ≤ k
 sL : ∀ k, vL.ownBlock = some k → S k ∨ W.heap.size ≤ k
 sO : ∀ k, vO.ownBlock = some k → S k ∨ W.heap.size ≤ k
section
variable {S : Nat → Prop} {W w w6 : World} {vM vL vO : Value}
theorem RQ.below (h : RQ S W w vM vL vO) (hb : Below w.heap.size w w6) : RQ S W w6 vM vL vO := ⟨h.up.trans (Upd.of_below hb S), h.sM, h.sL, h.sO⟩
theorem RQ.addM (h : RQ S W w vM vL vO) (g6 : w.grownBy w6 vM.ownBlock) {g' : Nat} (k6 : vM.ownBlock = some g' ∨ w.heap.size ≤ g') (n c' : Nat) : RQ S W w6 (.slice (some ⟨g', 0, none⟩) n c') vL vO :=
 ⟨h.up.then (Upd.of_grown (S := fun k => vM.ownBlock = some k) g6 (fun k hk _ => hk)) (fun k hk e => (h.sM k e).elim id (fun e => by omega)), fun k hk => by
  cases hk
  exact k6.elim (fun e => h.sM _ e) (fun e => .inr (Nat.le_trans h.up.size e)), h.sL, h.sO⟩
theorem RQ.addL (h : RQ S W w vM vL vO) (g6 : w.grownBy w6 vL.ownBlock) {g' : Nat} (k6 : vL.ownBlock = some g' ∨ w.heap.size ≤ g') (n c' b j : Nat) (hb : W.heap.size ≤ b) (x : Value) : RQ S W (w6.setCell ⟨b, j, none⟩ x) vM (.slice (some ⟨g', 0, none⟩) n c') vO :=
 ⟨(h.up.then (Upd.of_grown (S := fun k => vL.ownBlock = some k) g6 (fun k hk _ => hk)) (fun k hk e => (h.sL k e).elim id (fun e => by omega))).setCell ⟨b, j, none⟩ x (fun e => absurd e (by simp only; omega)), h.sM, fun k hk => by
  cases hk
  exact k6.elim (fun e => h.sL _ e) (fun e => .inr (Nat.le_trans h.up.size e)), h.sO⟩
theorem RQ.addO (h : RQ S W w vM vL vO) (g6 : w.grownBy w6 vO.ownBlock) {g' : Nat} (k6 : vO.ownBlock = some g' ∨ w.heap.size ≤ g') (n c' b j : Nat) (hb : W.heap.size ≤ b) (x : Value) : RQ S W (w6.setCell ⟨b, j, none⟩ x) vM vL (.slice (some ⟨g', 0, none⟩) n c') :=
 ⟨(h.up.then (Upd.of_grown (S := fun k => vO.ownBlock = some k) g6 (fun k hk _ => hk)) (fun k hk e => (h.sO k e).elim id (fun e => by omega))).setCell ⟨b, j, none⟩ x (fun e => absurd e (by simp only; omega)), h.sM, h.sL, fun k hk => by
  cases hk
  exact k6.elim (fun e => h.sO _ e) (fun e => .inr (Nat.le_trans h.up.size e))⟩
end
end Go.Proofs.YtealejbfloacpaaGreat
namespace Go.Proofs.YtealejbfloacpaaGreat
open Go.RowKit
set_option maxRecDepth 100000
theorem infoU8s : (Tryz.prog.info? 23).map (fun i => (i.zero, i.size, i.bytes)) = some (some (.slice none 0 0), 1, 24) := by kernel_rfl
def set2 (w : World) (b : Nat) (x y : Value) : World := (w.setCell ⟨b, 0, none⟩ x).setCell ⟨b, 1, none⟩ y
theorem set2_block {w : World} {b : Nat} {T : TypeId} {u0 u1 : Value} (h : w.heap[b]? = some (.cells #[u0, u1] T (0, 0))) (x y : Value) : (set2 w b x y).heap[b]? = some (.cells #[x, y] T (0, 0)) := block_setCell (block_setCell h 0 x) 1 y
theorem set2_upd (w : World) (b : Nat) (x y : Value) : Upd (fun k => k = b) w (set2 w b x y) := ((Upd.refl (fun k => k = b) w).setCell ⟨b, 0, none⟩ x (fun _ => rfl)).setCell ⟨b, 1, none⟩ y (fun _ => rfl)
theorem two_at {W : World} {b : Nat} {T : TypeId} {x0 x1 : Value} (h : W.heap[b]? = some (.cells #[x0, x1] T (0, 0))) : W.cell? ⟨b, 0, none⟩ = some x0 ∧ W.cell? ⟨b, 1, none⟩ = some x1 := ⟨by rw [cell_of_row _ _ _ _ _ _ h]; rfl, by rw [cell_of_row _ _ _ _ _ _ h]; rfl⟩
section
variable {w : World} {b10 b12 : Nat} {T U : TypeId} {u0 u1 a0 a1 a2 a3 a4 a5 : Value}
theorem below_two {w w' : World} {b b' N : Nat} (h : Upd (fun k => k = b ∨ k = b') w w') (h1 : N ≤ b) (h2 : N ≤ b') (hb : b < w.heap.size) : Below N w w' := h.below (by omega) (fun k hk e => by omega)
theorem fin_a1 (h10 : w.heap[b10]? = some (.cells #[u0, u1] T (0, 0))) (h12 : w.heap[b12]? = some (.cells #[a0, a1, a2, a3, a4, a5] U (0, 0))) (hne : b10 ≠ b12) (x y v0 v1 v2 v3 v4 v5 : Value) :
  ((six6 (set2 w b10 x y) b12 v0 v1 v2 v3 v4 v5).cell? ⟨b10, 0, none⟩ = some x ∧ (six6 (set2 w b10 x y) b12 v0 v1 v2 v3 v4 v5).cell? ⟨b10, 1, none⟩ = some y) ∧ Six (six6 (set2 w b10 x y) b12 v0 v1 v2 v3 v4 v5) b12 v0 v1 v2 v3 v4 v5 ∧ (∀ N, N ≤ b10 → N ≤ b12 → Below N w (six6 (set2 w b10 x y) b12 v0 v1 v2 v3 v4 v5)) ∧ Upd (fun k => k = b10 ∨ k = b12) w (six6 (set2 w b10 x y) b12 v0 v1 v2 v3 v4 v5) := by
 have h1 := set2_block h10 x y
 have h2 := (set2_upd w b10 x y).heap h12 (fun e => hne e.symm)
 have u2 : Upd (fun k => k = b12) (set2 w b10 x y) (six6 (set2 w b10 x y) b12 v0 v1 v2 v3 v4 v5) := six_upd _ _ _ _ _ _ _ _ _ rfl
 exact ⟨two_at (u2.heap h1 hne), Six.of (six_block h2 _ _ _ _ _ _), fun N e1 e2 => below_two (((set2_upd w b10 x y).mono (fun k _ e => Or.inl e)).then u2 (fun k _ e => .inr e)) e1 e2 (lt_of_block h10), ((set2_upd w b10 x y).mono (fun k _ e => Or.inl e)).then u2 (fun k _ e => .inr e)⟩
theorem fin_a2 (h10 : w.heap[b10]? = some (.cells #[u0, u1] T (0, 0))) (h12 : w.heap[b12]? = some (.cells #[a0, a1, a2, a3, a4, a5] U (0, 0))) (hne : b10 ≠ b12) (x y v0 v1 v2 v3 v4 v5 : Value) :
  ((set2 (six6 w b12 v0 v1 v2 v3 v4 v5) b10 x y).cell? ⟨b10, 0, none⟩ = some x ∧ (set2 (six6 w b12 v0 v1 v2 v3 v4 v5) b10 x y).cell? ⟨b10, 1, none⟩ = some y) ∧ Six (set2 (six6 w b12 v0 v1 v2 v3 v4 v5) b10 x y) b12 v0 v1 v2 v3 v4 v5 ∧ (∀ N, N ≤ b10 → N ≤ b12 → Below N w (set2 (six6 w b12 v0 v1 v2 v3 v4 v5) b10 x y)) ∧ Upd (fun k => k = b10 ∨ k = b12) w (set2 (six6 w b12 v0 v1 v2 v3 v4 v5) b10 x y) := by
 have u1' : Upd (fun k => k = b12) w (six6 w b12 v0 v1 v2 v3 v4 v5) := six_upd _ _ _ _ _ _ _ _ _ rfl
 have h1 := u1'.heap h10 hne
 have h2 := six_block h12 v0 v1 v2 v3 v4 v5
 have u2 := set2_upd (six6 w b12 v0 v1 v2 v3 v4 v5) b10 x y
 exact ⟨two_at (set2_block h1 x y), Six.of (u2.heap h2 (fun e => hne e.symm)), fun N e1 e2 => below_two ((u1'.mono (fun k _ e => Or.inr e)).then u2 (fun k _ e => .inl e)) e1 e2 (lt_of_block h10), (u1'.mono (fun k _ e => Or.inr e)).then u2 (fun k _ e => .inl e)⟩
theorem fin_b {x y : Value} (h10 : w.heap[b10]? = some (.cells #[x, y] T (0, 0))) (h12 : w.heap[b12]? = some (.cells #[a0, a1, a2, a3, a4, a5] U (0, 0))) (hne : b10 ≠ b12) (v0 v1 v2 v3 v4 v5 : Value) :
  ((six6 w b12 v0 v1 v2 v3 v4 v5).cell? ⟨b10, 0, none⟩ = some x ∧ (six6 w b12 v0 v1 v2 v3 v4 v5).cell? ⟨b10, 1, none⟩ = some y) ∧ Six (six6 w b12 v0 v1 v2 v3 v4 v5) b12 v0 v1 v2 v3 v4 v5 ∧ (∀ N, N ≤ b10 → N ≤ b12 → Below N w (six6 w b12 v0 v1 v2 v3 v4 v5)) ∧ Upd (fun k => k = b10 ∨ k = b12) w (six6 w b12 v0 v1 v2 v3 v4 v5) := by
 have u2 : Upd (fun k => k = b12) w (six6 w b12 v0 v1 v2 v3 v4 v5) := six_upd _ _ _ _ _ _ _ _ _ rfl
 exact ⟨two_at (u2.heap h10 hne), Six.of (six_block h12 _ _ _ _ _ _), fun N _ e2 => u2.below (by have := lt_of_block h12; omega) (fun k hk e => by omega), u2.mono (fun k _ e => .inr e)⟩
end
theorem RCh.bl_at {w w6 : World} {N b : Nat} {F : Nat → Prop} {M : List Int} {ma : Option Addr} {mc : Nat} {lI : IL} {lO : TL} (h : RCh w N b F M ma mc lI lO) {e : TypeId} {v : Value} {n : Nat} {xs : List Value} (ho : w.ownsRow N e 1 v n xs) (he : e ≠ 141) (g6 : w.grownBy w6 v.ownBlock) : w6.heap[b]? = some (.cells #[lI.v, lO.v] 141 (0, 0)) :=
 (g6.block b (lt_of_block h.bl) (fun e1 => by
  obtain ⟨cur, h5, _⟩ := own_ty ho e1.symm
  rw [h.bl] at h5
  cases h5
  exact he rfl)).trans h.bl
theorem RCh.box {w w' : World} {N b k1 k2 : Nat} {F : Nat → Prop} {M : List Int} {ma : Option Addr} {mc : Nat} {lI : IL} {lO : TL} (h : RCh w N b F M ma mc lI lO) (hu : Upd (fun k => k = k1 ∨ k = k2) w w') {c1 c2 : Array Value} {T1 T2 : TypeId} (h1 : w.heap[k1]? = some (.cells c1 T1 (0, 0))) (h2 : w.heap[k2]? = some (.cells c2 T2 (0, 0))) (t1 : T1 ≠ 3 ∧ T1 ≠ 23) (t2 : T2 ≠ 3 ∧ T2 ≠ 23) (n1 : b ≠ k1) (n2 : b ≠ k2) (N1 : N ≤ k1) (N2 : N ≤ k2) : RCh w' N b F M ma mc lI lO := by
 have hB : Below N w w' := hu.below h.nw (fun k hk e => by omega)
 have ow : ∀ {e : TypeId} {v : Value} {n : Nat} {xs : List Value}, (e = 3 ∨ e = 23) → w.ownsRow N e 1 v n xs → w'.ownsRow N e 1 v n xs := fun {e v n xs} he ho => owns_upd ho hu (fun k hk e1 => by
  obtain ⟨cur, h5, _⟩ := own_ty ho hk
  rcases e1 with e1 | e1
  ·rw [e1, h1] at h5; cases h5; exact he.elim t1.1 t1.2
  ·rw [e1, h2] at h5; cases h5; exact he.elim t2.1 t2.2)
 exact ⟨hu.heap h.bl (fun e => e.elim n1 n2), ow (.inl rfl) h.oL, ow (.inr rfl) h.oO, ow (.inl rfl) h.oM, h.lm, h.txs hB, h.li, h.fN, h.nb, Nat.le_trans h.nw hu.size⟩
def RcP (W : World) (N : Nat) (F : Nat → Prop) (M : List Int) (ma : Option Addr) (mc : Nat) (R : (Int × Int) ⊕ Chn) (e : Ending) (w' : World) : Prop :=
 Below N W w' ∧ Upd (fun k => (Value.slice ma M.length mc).ownBlock = some k) W w' ∧ ((∃ id er a0 n0 c0 a1 n1 c1 a2 n2 c2, R = .inl (id, er) ∧ e = .returned (.tuple #[.agg #[.slice a0 n0 c0, .slice a1 n1 c1], .slice a2 n2 c2, rpt false id er 0 0 0])) ∨
  ∃ ch b lI lO ma' mc', R = .inr ch ∧ e = .returned (.tuple #[.agg #[lI.v, lO.v], .slice ma' (M ++ ch.map (·.1)).length mc', rpt true 0 0 0 0 0]) ∧ RCh w' N b F (M ++ ch.map (·.1)) ma' mc' lI lO ∧ lI.s = ch.map (·.1) ∧ lO.p = ch.map (·.2) ∧ ∀ k, (Value.slice ma' (M ++ ch.map (·.1)).length mc').ownBlock = some k → (Value.slice ma M.length mc).ownBlock = some k ∨ W.heap.size ≤ k)
end Go.Proofs.YtealejbfloacpaaGreat
namespace Go.Proofs.YtealejbfloacpaaGreat
open Go.RowKit
set_option maxRecDepth 100000
structure LvO (w : World) (ch : Chn) (lI : IL) (lO : TL) : Prop where
 i : lI.Ok w
 o : lO.Ok w
 is : lI.s = ch.map (·.1)
 os : lO.p = ch.map (·.2)
 z : ch.length ≤ 65536
theorem LvO.below {w w' : World} {ch : Chn} {lI : IL} {lO : TL} (h : LvO w ch lI lO) (hb : Below w.heap.size w w') : LvO w' ch lI lO := ⟨h.i.below hb, h.o.below hb, h.is, h.os, h.z⟩
theorem RA.node6 {W : World} {A g c : Nat} {M D : Nat → Prop} {nodes root : Int} {L : List RS} (h : RA W A g c M D nodes root L) (i : Nat) (hi : i < L.length) :
  W.cell? ⟨g, i * 7 + 1, none⟩ = some (.int .i64 L[i].n.lv) ∧ W.cell? ⟨g, i * 7 + 2, none⟩ = some L[i].n.hi.v ∧ W.cell? ⟨g, i * 7 + 3, none⟩ = some (.int .i64 L[i].n.ri) ∧ W.cell? ⟨g, i * 7 + 4, none⟩ = some L[i].n.ks.v ∧ W.cell? ⟨g, i * 7 + 5, none⟩ = some L[i].n.vs.v ∧ W.cell? ⟨g, i * 7 + 6, none⟩ = some L[i].n.cs.v :=
 ⟨h.at_ i hi 1 (by omega), h.at_ i hi 2 (by omega), h.at_ i hi 3 (by omega), h.at_ i hi 4 (by omega), h.at_ i hi 5 (by omega), h.at_ i hi 6 (by omega)⟩
def kidR : Option Int → Value
 | none => rpt true 0 0 0 0 0
 | some id => rpt false id 113 0 0 0
end Go.Proofs.YtealejbfloacpaaGreat
namespace Go.Proofs.YtealejbfloacpaaGreat
open Go.RowKit
set_option maxRecDepth 100000
theorem chn_ok {s : AS} {ck : NP → Int} {lev : Int} {old : List Int} : ∀ (f : Nat) (id : Int) (low : List Int) (cur ch : Chn), s.chn ck lev old f id low cur = .inr ch → Met s (old ++ cur.map (·.1)) → ChnOk s ck lev cur → Met s (old ++ ch.map (·.1)) ∧ ChnOk s ck lev ch ∧ ch ≠ []
 | 0, _, _, _, _, h, _, _ => by rw [AS.chn] at h; cases h
 | f + 1, id, low, cur, ch, h, hm, hc => by
  rw [chn_succ] at h
  split at h
  ·cases h
  ·rename_i he
   have he' : s.metE ck lev low (old ++ cur.map (·.1)) id = 0 := Decidable.not_not.1 he
   have hm' : Met s (old ++ (cur ++ [(id, low)]).map (·.1)) := by
    have := hm.add he'
    rw [List.map_append, ← List.append_assoc]
    exact this
   split at h
   ·cases h
    exact ⟨hm', hc.add he', by simp⟩
   ·exact chn_ok f _ _ _ _ h hm' (hc.add he')
structure Lvp (s : AS) (ck : NP → Int) (outs : List Chn) (lev : Int) : Prop where
 ne : ∀ c ∈ outs, c ≠ []
 ck : ∀ c ∈ outs, ∀ x ∈ c, ck (s.n x.1) = 0
 lv : ∀ i (hi : i < outs.length), ∀ x ∈ outs[i], (s.n x.1).lv = lev + ((outs.length - i : Nat) : Int)
 met : Met s (idsOf outs)
theorem Lvp.nil (s : AS) (ck : NP → Int) (lev : Int) : Lvp s ck [] lev := ⟨fun c hc => (by cases hc), fun c hc => (by cases hc), fun i hi => absurd hi (Nat.not_lt_zero i), Met.nil s⟩
theorem Lvp.add {s : AS} {ck : NP → Int} {outs : List Chn} {lev : Int} {ch : Chn} (h : Lvp s ck outs lev) (hm : Met s (idsOf outs ++ ch.map (·.1))) (hc : ChnOk s ck lev ch) (hn : ch ≠ []) : Lvp s ck (outs ++ [ch]) (lev - 1) := by
 refine ⟨fun c hc' => ?_, fun c hc' => ?_, fun i hi x hx => ?_, by rw [ids_snoc]; exact hm⟩
 ·rcases List.mem_append.1 hc' with h1 | h1
  ·exact h.ne c h1
  ·rw [List.mem_singleton.1 h1]; exact hn
 ·rcases List.mem_append.1 hc' with h1 | h1
  ·exact h.ck c h1
  ·rw [List.mem_singleton.1 h1]; exact hc.ck
 ·have hl : (outs ++ [ch]).length = outs.length + 1 := by simp
  rcases Nat.lt_or_ge i outs.length with h1 | h1
  ·rw [List.getElem_append_left h1] at hx
   have := h.lv i h1 x hx
   rw [this, hl]
   omega
  ·obtain rfl : i = outs.length := by omega
   rw [List.getElem_append_right (Nat.le_refl _)] at hx
   simp only [Nat.sub_self, List.getElem_cons_zero] at hx
   rw [hc.lv x hx, hl]
   omega
theorem ids_mem {outs : List Chn} {c : Chn} {x : Int × List Int} (hc : c ∈ outs) (hx : x ∈ c) : x.1 ∈ idsOf outs := List.mem_flatMap.2 ⟨c, hc, List.mem_map.2 ⟨x, hx, rfl⟩⟩
theorem ids_ge {outs : List Chn} (h : ∀ c ∈ outs, c ≠ []) : outs.length ≤ (idsOf outs).length := by
 induction outs with
 | nil => simp
 | cons c r ih =>
  have h1 := ih (fun d hd => h d (.tail _ hd))
  have h2 : 0 < c.length := List.length_pos_iff.2 (h c (.head _))
  simp only [idsOf, List.flatMap_cons, List.length_append, List.length_map, List.length_cons] at h1 ⊢
  omega
theorem ids_le {outs : List Chn} {c : Chn} (h : c ∈ outs) : c.length ≤ (idsOf outs).length := by
 induction outs with
 | nil => cases h
 | cons d r ih =>
  simp only [idsOf, List.flatMap_cons, List.length_append, List.length_map]
  rcases List.mem_cons.1 h with h | h
  ·subst h; omega
  ·have := ih h
   simp only [idsOf] at this
   omega
theorem owns_updN {S : Nat → Prop} {w w' : World} {N : Nat} {e : TypeId} {size : Nat} {v : Value} {n : Nat} {xs : List Value} (h : w.ownsRow N e size v n xs) (hu : Upd S w w') (hs : ∀ k, v.ownBlock = some k → ¬ S k) : w'.ownsRow N e size v n xs :=
 owns_blkN h (fun k hk => by
  obtain ⟨cur, hh, _⟩ := own_ty h hk
  exact hu.block k (lt_of_block hh) (hs k hk))
structure QLv (w : World) (N : Nat) (F : Nat → Prop) (q : IL × TL) (ch : Chn) : Prop where
 oL : w.ownsRow N 3 1 q.1.v q.1.s.length (q.1.s.map (Value.int .i64))
 oO : w.ownsRow N 23 1 q.2.v q.2.L.length (q.2.L.map Tx.v)
 ok : ∀ t ∈ q.2.L, t.Ok w
 li : ∀ t ∈ q.2.L, ∀ y, t.a = some y → 0 < t.s.length → F y.block
 is : q.1.s = ch.map (·.1)
 os : q.2.p = ch.map (·.2)
theorem QLv.upd {S : Nat → Prop} {w w' : World} {N : Nat} {F : Nat → Prop} {q : IL × TL} {ch : Chn} (h : QLv w N F q ch) (hu : Upd S w w') (h1 : ∀ k, q.1.v.ownBlock = some k → ¬ S k) (h2 : ∀ k, q.2.v.ownBlock = some k → ¬ S k) (hF : ∀ k, F k → ¬ S k) : QLv w' N F q ch :=
 ⟨owns_upd h.oL hu h1, owns_upd h.oO hu h2, fun t ht => (h.ok t ht).updL hu (fun y e l => hF _ (h.li t ht y e l)), h.li, h.is, h.os⟩
theorem QLv.lvo {w : World} {N : Nat} {F : Nat → Prop} {q : IL × TL} {ch : Chn} (h : QLv w N F q ch) (hz : ch.length ≤ 65536) : LvO w ch q.1 q.2 := by
 refine ⟨il_of_owns h.oL, ?_, h.is, h.os, hz⟩
 obtain ⟨a, c, hv, hok, _⟩ := vok_of_owns h.oO
 obtain ⟨⟨ia, ic, is⟩, ⟨ta, tc, tL⟩⟩ := q
 simp only [TL.v, Value.slice.injEq, true_and] at hv
 obtain ⟨rfl, rfl⟩ := hv
 refine ⟨fun i hi => ?_, h.ok, fun e => by have := hok.n e; rw [List.length_map] at this; exact this, by have := hok.lc; rwa [List.length_map] at this⟩
 obtain ⟨b, o, e1, e2⟩ := hok.r i (by rw [List.length_map]; exact hi)
 exact ⟨b, o, e1, by rw [e2]; simp⟩
def cells2 (q : IL × TL) : List Value := [q.1.v, q.2.v]
structure RLS (w : World) (N : Nat) (F : Nat → Prop) (outs : List Chn) (Q : List (IL × TL)) (oa : Option Addr) (oc : Nat) (M : List Int) (ma : Option Addr) (mc : Nat) : Prop where
 row : w.ownsRow N 141 2 (.slice oa Q.length oc) Q.length (Q.flatMap cells2)
 len : Q.length = outs.length
 q : ∀ i (h : i < Q.length) (h' : i < outs.length), QLv w N F Q[i] outs[i]
 oM : w.ownsRow N 3 1 (.slice ma M.length mc) M.length (M.map (Value.int .i64))
 mq : ∀ q ∈ Q, ∀ k, q.1.v.ownBlock = some k → (Value.slice ma M.length mc).ownBlock ≠ some k
 fN : ∀ k, F k → k < N
 nw : N ≤ w.heap.size
section
variable {w w' : World} {N : Nat} {F S : Nat → Prop} {outs : List Chn} {Q : List (IL × TL)} {oa : Option Addr} {oc : Nat} {M : List Int} {ma : Option Addr} {mc : Nat}
theorem RLS.upd (h : RLS w N F outs Q oa oc M ma mc) (hu : Upd S w w') (hs : ∀ k cs T, S k → w.heap[k]? = some (.cells cs T (0, 0)) → T ≠ 3 ∧ T ≠ 23 ∧ T ≠ 141) (hF : ∀ k, F k → ¬ S k) : RLS w' N F outs Q oa oc M ma mc := by
 have ow : ∀ {e : TypeId} {size : Nat} {v : Value} {n : Nat} {xs : List Value}, (e = 3 ∨ e = 23 ∨ e = 141) → w.ownsRow N e size v n xs → ∀ k, v.ownBlock = some k → ¬ S k := fun {e size v n xs} he ho k hk e1 => by
  obtain ⟨cur, h5, _⟩ := own_ty ho hk
  have := hs k _ _ e1 h5
  rcases he with rfl | rfl | rfl
  ·exact this.1 rfl
  ·exact this.2.1 rfl
  ·exact this.2.2 rfl
 exact ⟨owns_updN h.row hu (ow (.inr (.inr rfl)) h.row), h.len, fun i hi hi' => (h.q i hi hi').upd hu (ow (.inl rfl) (h.q i hi hi').oL) (ow (.inr (.inl rfl)) (h.q i hi hi').oO) hF, owns_upd h.oM hu (ow (.inl rfl) h.oM), h.mq, h.fN, Nat.le_trans h.nw hu.size⟩
theorem RLS.below (h : RLS w N F outs Q oa oc M ma mc) (hb : Below w.heap.size w w') : RLS w' N F outs Q oa oc M ma mc :=
 h.upd (S := Noth) (Upd.of_below hb _) (fun _ _ _ e => e.elim) (fun _ _ e => e.elim)
theorem RLS.met (h : RLS w N F outs Q oa oc M ma mc) (hu : Upd (fun k => (Value.slice ma M.length mc).ownBlock = some k) w w') {M' : List Int} {ma' : Option Addr} {mc' : Nat} (hM : w'.ownsRow N 3 1 (.slice ma' M'.length mc') M'.length (M'.map (Value.int .i64))) (hk : ∀ k, (Value.slice ma' M'.length mc').ownBlock = some k → (Value.slice ma M.length mc).ownBlock = some k ∨ w.heap.size ≤ k) : RLS w' N F outs Q oa oc M' ma' mc' := by
 have oth : ∀ {e : TypeId} {size : Nat} {v : Value} {n : Nat} {xs : List Value}, e ≠ 3 → w.ownsRow N e size v n xs → ∀ k, v.ownBlock = some k → ¬ (Value.slice ma M.length mc).ownBlock = some k := fun {e size v n xs} he ho k hk e1 => by
  obtain ⟨c1, h5, _⟩ := own_ty ho hk
  obtain ⟨c2, h6, _⟩ := own_ty h.oM e1
  rw [h5] at h6
  cases h6
  exact he rfl
 refine ⟨owns_updN h.row hu (oth (by decide) h.row), h.len, fun i hi hi' => (h.q i hi hi').upd hu (fun k hk => h.mq _ (List.getElem_mem hi) k hk) (oth (by decide) (h.q i hi hi').oO) (fun k hk e => ?_), hM, fun q hq k hkq e => ?_, h.fN, Nat.le_trans h.nw hu.size⟩
 ·have h1 := h.fN k hk
  obtain ⟨_, _, h2⟩ := own_ty h.oM e
  omega
 ·obtain ⟨i, hi, rfl⟩ := List.getElem_of_mem hq
  rcases hk k e with e1 | e1
  ·exact h.mq _ hq k hkq e1
  ·have := ((h.q i hi (by rw [← h.len]; exact hi)).oL.lt _ hkq).2
   omega
theorem RLS.push (h : RLS w N F outs Q oa oc M ma mc) {q : IL × TL} {ch : Chn} (hq : QLv w N F q ch) (hm : ∀ k, q.1.v.ownBlock = some k → (Value.slice ma M.length mc).ownBlock ≠ some k) {g' c' : Nat} (o6 : w'.ownsRow N 141 2 (.slice (some ⟨g', 0, none⟩) (Q.length + 1) c') (Q.length + 1) (Q.flatMap cells2 ++ [q.1.v, q.2.v])) (g6 : w.grownBy w' (Value.slice oa Q.length oc).ownBlock) : RLS w' N F (outs ++ [ch]) (Q ++ [q]) (some ⟨g', 0, none⟩) c' M ma mc := by
 have hu : Upd (fun k => (Value.slice oa Q.length oc).ownBlock = some k) w w' := Upd.of_grown g6 (fun k hk _ => hk)
 have oth : ∀ {e : TypeId} {size : Nat} {v : Value} {n : Nat} {xs : List Value}, e ≠ 141 → w.ownsRow N e size v n xs → ∀ k, v.ownBlock = some k → ¬ (Value.slice oa Q.length oc).ownBlock = some k := fun {e size v n xs} he ho k hk e1 => by
  obtain ⟨c1, h5, _⟩ := own_ty ho hk
  obtain ⟨c2, h6, _⟩ := own_ty h.row e1
  rw [h5] at h6
  cases h6
  exact he rfl
 have hF : ∀ k, F k → ¬ (Value.slice oa Q.length oc).ownBlock = some k := fun k hk e => by
  have h1 := h.fN k hk
  obtain ⟨_, _, h2⟩ := own_ty h.row e
  omega
 have up : ∀ {q : IL × TL} {ch : Chn}, QLv w N F q ch → QLv w' N F q ch := fun hq => hq.upd hu (oth (by decide) hq.oL) (oth (by decide) hq.oO) hF
 refine ⟨?_, by simp [h.len], fun i hi hi' => ?_, owns_upd h.oM hu (oth (by decide) h.oM), fun x hx => ?_, h.fN, Nat.le_trans h.nw hu.size⟩
 ·rw [List.flatMap_append, List.length_append]
  simpa [cells2] using o6
 ·rcases Nat.lt_or_ge i Q.length with h1 | h1
  ·have h2 : i < outs.length := by rw [← h.len]; exact h1
   rw [List.getElem_append_left h1, List.getElem_append_left h2]
   exact up (h.q i h1 h2)
  ·have h3 : (Q ++ [q]).length = Q.length + 1 := by simp
   obtain rfl : i = Q.length := by omega
   have e1 : (Q ++ [q])[Q.length] = q := by simp
   have e2 : (outs ++ [ch])[Q.length] = ch := by simp [h.len]
   rw [e1, e2]
   exact up hq
 ·rcases List.mem_append.1 hx with hx | hx
  ·exact h.mq x hx
  ·rw [List.mem_singleton.1 hx]; exact hm
end
theorem flat2 (L : List (IL × TL)) (i j : Nat) (hi : i < L.length) (hj : j < 2) : (L.flatMap cells2)[i * 2 + j]? = (cells2 L[i])[j]? := by
 induction L generalizing i with
 | nil => simp at hi
 | cons a L ih =>
  rw [List.flatMap_cons]
  cases i with
  | zero => rw [List.getElem?_append_left (by simp [cells2]; omega)]; simp
  | succ i =>
   rw [List.getElem?_append_right (by simp [cells2]; omega)]
   have : (i + 1) * 2 + j - (cells2 a).length = i * 2 + j := by simp [cells2]; omega
   rw [this, ih i (by simpa using hi)]
   simp
theorem RLS.at_ {w : World} {N : Nat} {F : Nat → Prop} {outs : List Chn} {Q : List (IL × TL)} {oa : Option Addr} {oc : Nat} {M : List Int} {ma : Option Addr} {mc : Nat} (h : RLS w N F outs Q oa oc M ma mc) (i : Nat) (hi : i < Q.length) : ∃ g, oa = some ⟨g, 0, none⟩ ∧ w.cell? ⟨g, i * 2, none⟩ = some Q[i].1.v ∧ w.cell? ⟨g, i * 2 + 1, none⟩ = some Q[i].2.v := by
 rcases h.row.2 with ⟨_, h0⟩ | ⟨g, cap, cur, hv, _, hh, _, _, _, h4⟩
 ·omega
 ·simp only [Value.slice.injEq, true_and] at hv
  refine ⟨g, hv.1, ?_, ?_⟩
  ·rw [cell_of_row _ _ _ _ _ _ hh, ← Array.getElem?_toList]
   have := flat2 Q i 0 hi (by omega)
   rw [← h4, List.getElem?_take, if_pos (by omega)] at this
   exact this
  ·rw [cell_of_row _ _ _ _ _ _ hh, ← Array.getElem?_toList]
   have := flat2 Q i 1 hi (by omega)
   rw [← h4, List.getElem?_take, if_pos (by omega)] at this
   exact this
theorem cell_two_new (w : World) (x y : Value) (T : TypeId) : ∀ j u, [x, y][j]? = some u → (w.alloc (.cells #[x, y] T)).cell? ((⟨w.heap.size, 0, none⟩ : Addr).add j) = some u := by
 intro j u hu
 rw [Addr.add_lit, cell_of_row _ _ _ _ _ _ (heap_alloc_new w _)]
 match j, hu with
 | 0, hu => exact hu
 | 1, hu => exact hu
end Go.Proofs.YtealejbfloacpaaGreat
