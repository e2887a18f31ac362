/- Texts of one's own. -/
import Derived.Test.YtealejbfloacpaaGreatM11
import Derived.Lib.SlBytesConst
import Derived.Test.YtealejbfloacpaaGreatM7
import Derived.Test.YtealejbfloacpaaGreatM12
import Derived.Test.YtealejbfloacpaaGreatM8
namespace Go.Proofs.YtealejbfloacpaaGreat
open Go.RowKit
set_option maxRecDepth 100000
theorem new_at {W : World} {o : Obj} {K : Nat} (h : W.heap.size = K) : (W.alloc o).heap[K]? = some o := by subst h; exact heap_alloc_new W o
theorem old_at {W : World} {o x : Obj} {k : Nat} (h : W.heap[k]? = some x) : (W.alloc o).heap[k]? = some x := (Below.heap_alloc W o k (lt_of_block h)).trans h
end Go.Proofs.YtealejbfloacpaaGreat
namespace Go.Proofs.YtealejbfloacpaaGreat
open Go.RowKit
set_option maxRecDepth 100000
def isAt (s : List Int) (l : Nat) (x : Int) : Prop := ∃ j, j < l ∧ s.getD j 0 = x
instance (s : List Int) (l : Nat) (x : Int) : Decidable (isAt s l x) := by unfold isAt; exact inferInstance
def VlP (vs : List (List Int)) : Prop := ∀ j, j < vs.length → (vs.getD j []).length ≤ 256
instance (vs : List (List Int)) : Decidable (VlP vs) := by unfold VlP; exact inferInstance
def KdP (cs : List Int) (nd : Int) : Prop := ∀ i, i < cs.length → (1 ≤ cs.getD i 0 ∧ cs.getD i 0 ≤ nd) ∧ ¬ isAt cs i (cs.getD i 0)
instance (cs : List Int) (nd : Int) : Decidable (KdP cs nd) := by unfold KdP; exact inferInstance
end Go.Proofs.YtealejbfloacpaaGreat
namespace Go.Proofs.YtealejbfloacpaaGreat
open Go.RowKit
set_option maxRecDepth 100000
def HdP (lv : Int) (lh : Nat) (ri nd : Int) : Prop := ((0 ≤ lv ∧ lv ≤ 32) ∧ (0 ≤ ri ∧ ri ≤ nd)) ∧ (lh = 0 ↔ ri = 0) ∧ lh ≤ 64
instance (lv : Int) (lh : Nat) (ri nd : Int) : Decidable (HdP lv lh ri nd) := by unfold HdP; exact inferInstance
end Go.Proofs.YtealejbfloacpaaGreat
namespace Go.Proofs.YtealejbfloacpaaGreat
open Go.RowKit
set_option maxRecDepth 100000
def OvP (lv : Int) (lk lc : Nat) (lf inn : Int) : Prop := if lv = 0 then lf < (lk : Int) else inn < (lc : Int)
instance (lv : Int) (lk lc : Nat) (lf inn : Int) : Decidable (OvP lv lk lc lf inn) := by unfold OvP; exact inferInstance
end Go.Proofs.YtealejbfloacpaaGreat
namespace Go.Proofs.YtealejbfloacpaaGreat
open Go.RowKit
set_option maxRecDepth 100000
def KyP (hi : List Int) (ks : List (List Int)) : Prop := ∀ j, j < ks.length → ((1 ≤ (ks.getD j []).length ∧ (ks.getD j []).length ≤ 64) ∧ beyB hi (ks.getD j []) = false) ∧ (0 < j → cmpI (ks.getD (j - 1) []) (ks.getD j []) < 0)
instance (hi : List Int) (ks : List (List Int)) : Decidable (KyP hi ks) := by unfold KyP; exact inferInstance
end Go.Proofs.YtealejbfloacpaaGreat
namespace Go.Proofs.YtealejbfloacpaaGreat
open Go.RowKit
set_option maxRecDepth 100000
def BdP (p : NP) (nd lf inn : Int) : Prop := ¬ OvP p.lv p.ks.length p.cs.length lf inn ∧ (if p.lv = 0 then (p.cs.length = 0 ∧ p.vs.length = p.ks.length) ∧ VlP p.vs else (p.vs.length = 0 ∧ p.cs.length = p.ks.length + 1) ∧ KdP p.cs nd)
instance (p : NP) (nd lf inn : Int) : Decidable (BdP p nd lf inn) := by unfold BdP; exact inferInstance
def nchkE (p : NP) (nd lf inn fl bk : Int) : Int := if cfgOk nd lf inn fl bk then (if HdP p.lv p.hi.length p.ri nd ∧ KyP p.hi p.ks ∧ BdP p nd lf inn then 0 else 91) else 1
end Go.Proofs.YtealejbfloacpaaGreat
namespace Go.Proofs.YtealejbfloacpaaGreat
open Go.RowKit
set_option maxRecDepth 100000
set_option maxHeartbeats 400000 in
theorem rvalue_any (a : Option Addr) (l c : Nat) (w : World) : Calls Tryz.prog 31 #[.slice a l c] w fun e w' => e = .returned (.bool (decide (l ≤ 256))) ∧ w' = w := by
 have HD : Hid (decide ((l : Int) ≤ 256) = decide (l ≤ 256)) := by show _ = _; exact decide_eq_decide.2 (by omega)
 rw [← HD.out]
 go_enter Tryz.func31, Tryz.ntmps31
 go_wp2
 go_ret
 exact ⟨rfl, rfl⟩
set_option maxHeartbeats 400000 in
theorem rkey_any (a : Option Addr) (l c : Nat) (w : World) : Calls Tryz.prog 12 #[.slice a l c] w fun e w' => e = .returned (.bool (decide (1 ≤ l ∧ l ≤ 64))) ∧ w' = w := by
 by_cases h1 : 1 ≤ l
 ·have i1 : (1 : Int) ≤ (l : Int) := by omega
  have HD : Hid (decide ((l : Int) ≤ 64) = decide (1 ≤ l ∧ l ≤ 64)) := by show _ = _; exact decide_eq_decide.2 (by omega)
  rw [← HD.out]
  clear h1
  go_enter Tryz.func12, Tryz.ntmps12
  go_wp2
  go_ret
  exact ⟨rfl, rfl⟩
 ·have i1 : ¬ (1 : Int) ≤ (l : Int) := by omega
  have HD : Hid (decide (1 ≤ l ∧ l ≤ 64) = false) := by show _ = _; exact decide_eq_false fun h => h1 h.1
  rw [HD.out]
  clear h1
  go_enter Tryz.func12, Tryz.ntmps12
  go_wp2
  go_ret
  exact ⟨rfl, rfl⟩
theorem ky_rs {hi : List Int} {ks : List (List Int)} (h : KyP hi ks) : Rs ks := fun j hj => by
 have := (h (j + 1) (by omega)).2 (Nat.succ_pos j)
 rwa [Nat.add_sub_cancel] at this
set_option maxRecDepth 100000 in
set_option maxHeartbeats 3200000 in
theorem rkeys_any (n : Nd) (w : World) (hn : n.Ok w) : Calls Tryz.prog 171 #[n.v] w fun e w' => e = .returned (.bool (decide (KyP n.hi.s n.ks.p))) ∧ Below w.heap.size w w' := by
 obtain ⟨rv, hrv⟩ : ∃ rv, rv = decide (KyP n.hi.s n.ks.p) := ⟨_, rfl⟩
 rw [← hrv]
 have hkz := hn.kz
 have hhz := hn.h.z
 obtain ⟨rb, hrb⟩ : ∃ rb, rb = decide (Rs n.ks.p) := ⟨_, rfl⟩
 have HRS : Hid (∀ W, Below w.heap.size w W → Calls Tryz.prog 95 #[.slice n.ks.a n.ks.L.length n.ks.c] W fun e w' => e = .returned (.bool rb) ∧ ∃ m, w' = W.drewN m) := fun W h => by rw [hrb]; exact rises_any n.ks.a _ n.ks.c n.ks.L W (hn.below h).k rfl (by omega)
 have HK : Hid (∀ W, Below w.heap.size w W → n.ks.Ok W) := fun W h => (hn.below h).k
 have HH : Hid (∀ W, Below w.heap.size w W → n.hi.Ok W) := fun W h => (hn.below h).h
 clear hn
 obtain ⟨lv, ⟨ha, hc, hs⟩, ri, ⟨ka, kc, K⟩, ⟨va, vc, V⟩, ⟨ca, cc, C⟩⟩ := n
 simp only [Nd.v, Tx.v, TL.v, IL.v, TL.p] at HRS HK HH hkz hhz hrv hrb ⊢
 replace hrv := hide hrv
 replace hrb := hide hrb
 obtain ⟨l, hl⟩ : ∃ l, K.length = l := ⟨_, rfl⟩
 obtain ⟨lh, hlh⟩ : ∃ lh, hs.length = lh := ⟨_, rfl⟩
 rw [hl] at hkz HRS ⊢
 rw [hlh] at hhz ⊢
 replace hl := hide hl
 replace hlh := hide hlh
 generalize V.length = lw at *
 generalize C.length = lc at *
 have HPL : Hid ((K.map (·.s)).length = l) := by show _ = _; rw [List.length_map, hl.out]
 have HGE : Hid (∀ i (h : i < K.length), (K.map (·.s)).getD i [] = K[i].s) := fun i h => tl_getD (t := ⟨ka, kc, K⟩) h
 obtain ⟨w0, hw0⟩ : ∃ w0, w0 = w.alloc (.cells #[.int .i64 lv, .slice ha lh hc, .int .i64 ri, .slice ka l kc, .slice va lw vc, .slice ca lc cc] 35) := ⟨_, rfl⟩
 have B0 : Hid (Below w.heap.size w w0) := by show Below _ _ _; rw [hw0]; exact (Below.refl _ _).alloc (Nat.le_refl _) _
 have G0 : Hid (w0.heap[w.heap.size]? = some (.cells #[.int .i64 lv, .slice ha lh hc, .int .i64 ri, .slice ka l kc, .slice va lw vc, .slice ca lc cc] 35 (0, 0))) := by show _ = _; rw [hw0]; exact heap_alloc_new w _
 have HW0 := hide hw0
 clear hw0
 go_enter Tryz.func171, Tryz.ntmps171
 go_wp2_with fail
 rw [← HW0.out]
 refine (HRS.out w0 B0.out).mono ?_
 rintro e w1 ⟨rfl, m1, hw1⟩
 have B1 : Hid (Below w.heap.size w w1) := by show Below _ _ _; rw [hw1]; exact below_drewN B0.out m1
 have G1 : Hid (w1.heap[w.heap.size]? = some (.cells #[.int .i64 lv, .slice ha lh hc, .int .i64 ri, .slice ka l kc, .slice va lw vc, .slice ca lc cc] 35 (0, 0))) := by show _ = _; rw [hw1]; exact G0.out
 clear hw1 B0 G0 HW0 HRS
 cases rb with
 | false =>
  have HF : Hid (rv = false) := by show _ = _; rw [hrv.out]; exact decide_eq_false fun h => of_decide_eq_false hrb.out.symm (ky_rs h)
  go_wp2_with fail
  go_ret
  exact ⟨by rw [HF.out]; rfl, B1.out⟩
 | true =>
  go_wp2_with fail
  go_loopw [4] (fun q wr => ∃ i : Nat, q = .int .i64 (i : Int) ∧ i ≤ l ∧ Hid (Below w.heap.size w wr) ∧ Hid (wr.heap[w.heap.size]? = some (.cells #[.int .i64 lv, .slice ha lh hc, .int .i64 ri, .slice ka l kc, .slice va lw vc, .slice ca lc cc] 35 (0, 0))) ∧ Hid (∀ j, j < i → (1 ≤ ((K.map (·.s)).getD j []).length ∧ ((K.map (·.s)).getD j []).length ≤ 64) ∧ beyB hs ((K.map (·.s)).getD j []) = false)) (fun q _ => l - (intOf q).toNat)
  case atStart => exact ⟨0, rfl, Nat.zero_le _, B1, G1, fun j hj => absurd hj (Nat.not_lt_zero j)⟩
  case round =>
   clear B1 G1
   obtain ⟨i, rfl, hle, B1, G1, HE⟩ := hrel
   rename World => wr
   obtain ⟨c0, c1, c2, c3, c4, c5⟩ := Six.of G1.out
   by_cases hlt : i < l
   ·have j1 : (i : Int) < (l : Int) := by omega
    have j2 : (0 : Int) ≤ (i : Int) := by omega
    have h1 : i < K.length := by rw [hl.out]; exact hlt
    obtain ⟨b1, o1, ha1, s1⟩ := (HK.out wr B1.out).r i h1
    simp only at ha1
    subst ha1
    have HXO : Hid (K[i].Ok wr) := (HK.out wr B1.out).ok K[i] (List.getElem_mem h1)
    have e1 := HGE.out i h1
    obtain ⟨x, hx⟩ : ∃ x, x = K[i] := ⟨_, rfl⟩
    simp only [← hx] at s1 HXO e1
    clear hx
    replace e1 := hide e1
    unfold Tx.v at s1
    obtain ⟨n1, hn1⟩ : ∃ n1, x.s.length = n1 := ⟨_, rfl⟩
    rw [hn1] at s1
    replace hn1 := hide hn1
    have hz1 : n1 ≤ 140737488351232 := by have := HXO.out.z; rw [hn1.out] at this; exact this
    obtain ⟨cv, hcv⟩ : ∃ cv, cv = cmpI x.s hs := ⟨_, rfl⟩
    have HCM : Hid (∀ q, Calls Tryz.prog 78 #[.slice x.a n1 x.c, .slice ha lh hc] (wr.drewN q) fun e w' => e = .returned (.int .i64 cv) ∧ ∃ n, w' = wr.drewN n) := fun q => by
     rw [hcv]
     refine (rcmp_any x.a ha n1 x.c lh hc x.s hs (wr.drewN q) hn1.out hlh.out (by omega) (by omega) HXO.out.r (HH.out wr B1.out).r).mono ?_
     rintro e w' ⟨rfl, m, rfl⟩
     exact ⟨rfl, q + m, World.drewN_drewN _ _ _⟩
    have HBY : Hid (beyB hs x.s = (decide (0 < lh) && decide (0 ≤ cv))) := by show _ = _; unfold beyB; rw [hlh.out, hcv]
    have hf := cmpI_fits x.s hs
    rw [← hcv] at hf
    clear hcv
    have HNO : Hid (¬ ((1 ≤ n1 ∧ n1 ≤ 64) ∧ beyB hs x.s = false) → rv = false) := fun h2 => by
     rw [hrv.out]
     refine decide_eq_false fun h => h2 ?_
     have := (h i (by rw [HPL.out]; exact hlt)).1
     rw [e1.out, hn1.out] at this
     exact this
    have HYES : Hid (((1 ≤ n1 ∧ n1 ≤ 64) ∧ beyB hs x.s = false) → ∀ j, j < i + 1 → (1 ≤ ((K.map (·.s)).getD j []).length ∧ ((K.map (·.s)).getD j []).length ≤ 64) ∧ beyB hs ((K.map (·.s)).getD j []) = false) := fun h2 j hj => by
     by_cases e : j = i
     ·rw [e, e1.out, hn1.out]; exact h2
     ·exact HE.out j (by omega)
    have HKY := hide (rkey_any x.a n1 x.c wr)
    generalize x.a = xa at *
    generalize x.c = xc at *
    by_cases hin : 1 ≤ n1 ∧ n1 ≤ 64
    ·rw [decide_eq_true hin] at HKY
     by_cases h0 : 0 < lh
     ·have i1 : (0 : Int) < (lh : Int) := by omega
      by_cases hc0 : 0 ≤ cv
      ·have HF : Hid (rv = false) := HNO.out fun h => by rw [HBY.out, decide_eq_true h0, decide_eq_true hc0] at h; exact absurd h.2 (by decide)
       clear hin HNO HYES HE
       go_wp2_with fail
       refine keep HKY.out ?_
       go_wp2_with fail
       go_quiet ((go_at_call 78; with_reducible exact HCM.out _))
       go_wp2_with fail
       go_ret
       exact ⟨by rw [HF.out]; rfl, below_drewN B1.out _⟩
      ·have HY2 := hide (HYES.out ⟨hin, by rw [HBY.out, decide_eq_false hc0, Bool.and_false]⟩)
       clear hin HNO HYES HE
       go_wp2_with fail
       refine keep HKY.out ?_
       go_wp2_with fail
       go_quiet ((go_at_call 78; with_reducible exact HCM.out _))
       go_wp2_with fail
       go_roundw
       case rel => exact ⟨i + 1, by go_num, by omega, below_drewN B1.out _, G1.out, HY2⟩
       case measure => simp [intOf]; omega
     ·obtain rfl : lh = 0 := by omega
      have HY2 := hide (HYES.out ⟨hin, by rw [HBY.out, decide_eq_false h0, Bool.false_and]⟩)
      clear hin h0 HNO HYES HE HCM
      go_wp2_with fail
      refine keep HKY.out ?_
      go_wp2_with fail
      go_quiet (fail)
      go_wp2_with fail
      go_roundw
      case rel => exact ⟨i + 1, by go_num, by omega, below_drewN B1.out _, G1.out, HY2⟩
      case measure => simp [intOf]; omega
    ·rw [decide_eq_false hin] at HKY
     have HF : Hid (rv = false) := HNO.out fun h => hin h.1
     clear hin HNO HYES HE HCM
     go_wp2_with fail
     refine keep HKY.out ?_
     go_wp2_with fail
     go_quiet (fail)
     go_wp2_with fail
     go_ret
     exact ⟨by rw [HF.out]; rfl, below_drewN B1.out _⟩
   ·have j1 : ¬ (i : Int) < (l : Int) := by omega
    have HF : Hid (rv = true) := by
     show _ = _
     rw [hrv.out]
     refine decide_eq_true fun j hj => ?_
     have hj2 := hj
     rw [HPL.out] at hj2
     refine ⟨HE.out j (by omega), fun h0 => ?_⟩
     have hrs : Rs (K.map (·.s)) := of_decide_eq_true hrb.out.symm
     have := hrs (j - 1) (by omega)
     rwa [show j - 1 + 1 = j by omega] at this
    go_wp2_with fail
    go_ret
    exact ⟨by rw [HF.out]; rfl, B1.out⟩
end Go.Proofs.YtealejbfloacpaaGreat
namespace Go.Proofs.YtealejbfloacpaaGreat
open Go.RowKit
set_option maxRecDepth 100000
set_option maxRecDepth 100000 in
set_option maxHeartbeats 3200000 in
theorem rkids_any (n : Nd) (nd lf inn fl bk : Int) (w : World) (hn : n.Ok w) : Calls Tryz.prog 172 #[n.v, .agg #[.int .i64 nd, .int .i64 lf, .int .i64 inn, .int .i64 fl, .int .i64 bk]] w fun e w' => e = .returned (.bool (decide ((n.cs.s.length : Int) ≤ inn ∧ KdP n.cs.s nd))) ∧ Below w.heap.size w w' := by
 obtain ⟨rv, hrv⟩ : ∃ rv, rv = decide ((n.cs.s.length : Int) ≤ inn ∧ KdP n.cs.s nd) := ⟨_, rfl⟩
 rw [← hrv]
 have hcz := hn.cz
 have HC : Hid (∀ W, Below w.heap.size w W → Row W .i64 n.cs.a n.cs.s) := fun W h => (hn.below h).c.r
 clear hn
 obtain ⟨lv, ⟨ha, hc, hs⟩, ri, ⟨ka, kc, K⟩, ⟨va, vc, V⟩, ⟨ca, cc, C⟩⟩ := n
 simp only [Nd.v, Tx.v, TL.v, IL.v] at HC hcz hrv ⊢
 obtain ⟨lc, hlc⟩ : ∃ lc, C.length = lc := ⟨_, rfl⟩
 rw [hlc] at hcz hrv ⊢
 replace hlc := hide hlc
 replace hrv := hide hrv
 generalize hs.length = lh at *
 generalize K.length = lk at *
 generalize V.length = lw at *
 obtain ⟨w0, hw0⟩ : ∃ w0, w0 = (w.alloc (.cells #[.int .i64 lv, .slice ha lh hc, .int .i64 ri, .slice ka lk kc, .slice va lw vc, .slice ca lc cc] 35)).alloc (.cells #[.int .i64 nd, .int .i64 lf, .int .i64 inn, .int .i64 fl, .int .i64 bk] 49) := ⟨_, rfl⟩
 have B0 : Hid (Below w.heap.size w w0) := by show Below _ _ _; rw [hw0]; exact ((Below.refl _ _).alloc (Nat.le_refl _) _).alloc (by simp) _
 have G0 : Hid (w0.heap[w.heap.size]? = some (.cells #[.int .i64 lv, .slice ha lh hc, .int .i64 ri, .slice ka lk kc, .slice va lw vc, .slice ca lc cc] 35 (0, 0))) := by show _ = _; rw [hw0]; exact old_at (new_at rfl)
 have F0 : Hid (w0.heap[w.heap.size + 1]? = some (.cells #[.int .i64 nd, .int .i64 lf, .int .i64 inn, .int .i64 fl, .int .i64 bk] 49 (0, 0))) := by show _ = _; rw [hw0]; exact new_at (by simp)
 have HW0 := hide hw0
 clear hw0
 by_cases hin : inn < (lc : Int)
 ·have HF : Hid (rv = false) := by show _ = _; rw [hrv.out]; exact decide_eq_false fun h => by have := h.1; omega
  go_enter Tryz.func172, Tryz.ntmps172
  go_wp2_with fail
  go_ret
  exact ⟨by rw [HF.out]; rfl, by have := B0.out; rw [HW0.out] at this; exact this⟩
 ·go_enter Tryz.func172, Tryz.ntmps172
  go_wp2_with fail
  rw [← HW0.out]
  clear HW0
  have HIN : Hid ((lc : Int) ≤ inn) := by show _ ≤ _; omega
  clear hin
  go_loopw [5] (fun q wr => ∃ i : Nat, q = .int .i64 (i : Int) ∧ i ≤ lc ∧ Hid (Below w.heap.size w wr) ∧ Hid (wr.heap[w.heap.size]? = some (.cells #[.int .i64 lv, .slice ha lh hc, .int .i64 ri, .slice ka lk kc, .slice va lw vc, .slice ca lc cc] 35 (0, 0))) ∧ Hid (wr.heap[w.heap.size + 1]? = some (.cells #[.int .i64 nd, .int .i64 lf, .int .i64 inn, .int .i64 fl, .int .i64 bk] 49 (0, 0))) ∧ Hid (∀ j, j < i → (1 ≤ C.getD j 0 ∧ C.getD j 0 ≤ nd) ∧ ¬ isAt C j (C.getD j 0))) (fun q _ => lc - (intOf q).toNat)
  case atStart => exact ⟨0, rfl, Nat.zero_le _, B0, G0, F0, fun j hj => absurd hj (Nat.not_lt_zero j)⟩
  case round =>
   clear B0 G0 F0
   obtain ⟨i, rfl, hle, B1, G1, F1, HE⟩ := hrel
   rename World => wr
   obtain ⟨c0, c1, c2, c3, c4, c5⟩ := Six.of G1.out
   have x0 : wr.cell? ⟨w.heap.size + 1, 0, none⟩ = some (.int .i64 nd) := by rw [cell_of_row _ _ _ _ _ _ F1.out]; rfl
   by_cases hlt : i < lc
   ·have j1 : (i : Int) < (lc : Int) := by omega
    have j2 : (0 : Int) ≤ (i : Int) := by omega
    obtain ⟨b, o, hae, s0⟩ := HC.out wr B1.out i (by rw [hlc.out]; exact hlt)
    subst hae
    obtain ⟨y, hy⟩ : ∃ y, y = C.getD i 0 := ⟨_, rfl⟩
    rw [← hy] at s0
    replace hy := hide hy
    have HNO : Hid (¬ ((1 ≤ y ∧ y ≤ nd) ∧ ¬ isAt C i y) → rv = false) := fun h2 => by
     rw [hrv.out]
     refine decide_eq_false fun h => h2 ?_
     have := h.2 i (by rw [hlc.out]; exact hlt)
     rw [← hy.out] at this
     exact this
    by_cases h1 : y < 1
    ·have HF : Hid (rv = false) := HNO.out fun h => by have := h.1.1; omega
     clear HNO HE
     go_wp2_with fail
     go_quiet (fail)
     go_wp2_with fail
     go_ret
     exact ⟨by rw [HF.out]; rfl, below_drewN B1.out _⟩
    ·by_cases h2 : nd < y
     ·have HF : Hid (rv = false) := HNO.out fun h => by have := h.1.2; omega
      clear HNO HE
      go_wp2_with fail
      go_quiet (fail)
      go_wp2_with fail
      go_ret
      exact ⟨by rw [HF.out]; rfl, below_drewN B1.out _⟩
     ·have HY : Hid (1 ≤ y ∧ y ≤ nd) := ⟨by omega, by omega⟩
      go_wp2_with fail
      go_quiet (fail)
      go_wp2_with fail
      clear c0 c1 c2 c3 c4 c5 x0 s0 h1 h2
      go_loopw [6] (fun q wr => ∃ k : Nat, q = .int .i64 (k : Int) ∧ k ≤ i ∧ Hid (Below w.heap.size w wr) ∧ Hid (wr.heap[w.heap.size]? = some (.cells #[.int .i64 lv, .slice ha lh hc, .int .i64 ri, .slice ka lk kc, .slice va lw vc, .slice (some ⟨b, o, none⟩) lc cc] 35 (0, 0))) ∧ Hid (wr.heap[w.heap.size + 1]? = some (.cells #[.int .i64 nd, .int .i64 lf, .int .i64 inn, .int .i64 fl, .int .i64 bk] 49 (0, 0))) ∧ Hid (∀ j, j < k → C.getD j 0 ≠ y)) (fun q _ => i - (intOf q).toNat)
      case atStart => exact ⟨0, rfl, Nat.zero_le _, below_drewN B1.out _, G1.out, F1.out, fun j hj => absurd hj (Nat.not_lt_zero j)⟩
      case round =>
       clear B1 G1 F1
       obtain ⟨k, rfl, hki, B1, G1, F1, HE2⟩ := hrel
       rename World => wr
       obtain ⟨c0, c1, c2, c3, c4, c5⟩ := Six.of G1.out
       by_cases hk : k < i
       ·have k1 : (k : Int) < (i : Int) := by omega
        have k2 : (0 : Int) ≤ (k : Int) := by omega
        have k3 : (k : Int) < (lc : Int) := by omega
        obtain ⟨b', o', hae, s1⟩ := HC.out wr B1.out k (by rw [hlc.out]; omega)
        obtain ⟨b'', o'', hae2, s2⟩ := HC.out wr B1.out i (by rw [hlc.out]; omega)
        cases hae
        cases hae2
        rw [← hy.out] at s2
        obtain ⟨z, hz⟩ : ∃ z, z = C.getD k 0 := ⟨_, rfl⟩
        rw [← hz] at s1
        replace hz := hide hz
        by_cases hzy : z = y
        ·have HF : Hid (rv = false) := HNO.out fun h => h.2 ⟨k, hk, by rw [← hz.out, hzy]⟩
         have q1 : (z == y) = true := by rw [beq_iff_eq]; exact hzy
         replace hzy := hide hzy
         clear HNO HE HE2
         go_wp2_with fail
         go_quiet (fail)
         go_wp2_with fail
         go_ret
         exact ⟨by rw [HF.out]; rfl, below_drewN B1.out _⟩
        ·have q1 : (z == y) = false := by rw [beq_eq_false_iff_ne]; exact hzy
         have HE3 : Hid (∀ j, j < k + 1 → C.getD j 0 ≠ y) := fun j hj => by
          by_cases e : j = k
          ·rw [e, ← hz.out]; exact hzy
          ·exact HE2.out j (by omega)
         clear HE2
         go_wp2_with fail
         go_quiet (fail)
         go_wp2_with fail
         go_roundw
         case rel => exact ⟨k + 1, by go_num, by omega, below_drewN B1.out _, G1.out, F1.out, HE3⟩
         case measure => simp [intOf]; omega
       ·have k1 : ¬ (k : Int) < (i : Int) := by omega
        obtain rfl : k = i := by omega
        have HE3 : Hid (∀ j, j < k + 1 → (1 ≤ C.getD j 0 ∧ C.getD j 0 ≤ nd) ∧ ¬ isAt C j (C.getD j 0)) := fun j hj => by
         by_cases e : j = k
         ·rw [e, ← hy.out]; exact ⟨HY.out, fun ⟨q, h1, h2⟩ => HE2.out q h1 h2⟩
         ·exact HE.out j (by omega)
        clear HE2 HE HNO
        go_wp2_with fail
        go_roundw
        case rel => exact ⟨k + 1, by go_num, by omega, B1, G1, F1, HE3⟩
        case measure => simp [intOf]; omega
   ·have j1 : ¬ (i : Int) < (lc : Int) := by omega
    have HF : Hid (rv = true) := by
     show _ = _
     rw [hrv.out]
     refine decide_eq_true ⟨HIN.out, fun j hj => HE.out j ?_⟩
     rw [hlc.out] at hj
     omega
    go_wp2_with fail
    go_ret
    exact ⟨by rw [HF.out]; rfl, B1.out⟩
end Go.Proofs.YtealejbfloacpaaGreat
