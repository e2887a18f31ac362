/- Texts of one's own. -/
import Derived.Test.YtljnapejgjffjaaGreatH38
import Derived.Laws.MakeOwn
namespace Go.Proofs.YtljnapejgjffjaaGreat
open Go.RowKit
set_option maxRecDepth 100000
abbrev En := Tx × Tx
def nilT : Tx := ⟨none,0,[]⟩
def EnC (x : En) : List Value := [x.1.v,x.2.v]
def enP (x : En) : List Int × List Int := (x.1.s,x.2.s)
def zipE (ks vs : List Tx) : List En := (List.range ks.length).map fun i => (ks.getD i nilT,vs.getD i nilT)
theorem zipE_len (ks vs : List Tx) : (zipE ks vs).length = ks.length := by simp [zipE]
theorem enC_len (E : List En) : (E.flatMap EnC).length = E.length * 2 := by
 induction E with
 | nil => rfl
 | cons a E ih => rw [List.flatMap_cons,List.length_append,ih,List.length_cons]; simp [EnC]; omega
theorem enC_at (E : List En) (i j : Nat) (hi : i < E.length) (hj : j < 2) : (E.flatMap EnC)[i * 2 + j]? = (EnC E[i])[j]? := by
 induction E generalizing i with
 | nil => simp at hi
 | cons a L ih =>
  rw [List.flatMap_cons]
  cases i with
  | zero => rw [List.getElem?_append_left (by simp [EnC]; omega)]; simp
  | succ i =>
   rw [List.getElem?_append_right (by simp [EnC]; omega)]
   have : (i + 1) * 2 + j - (EnC a).length = i * 2 + j := by simp [EnC]; omega
   rw [this,ih i (by simpa using hi)]
   simp
def enA (E : List En) (i : Nat) : Array Value := ((List.range (E.length * 2)).map fun j => if j < i then (E.flatMap EnC).getD j (.slice none 0 0) else .slice none 0 0).toArray
theorem enA_size (E : List En) (i : Nat) : (enA E i).size = E.length * 2 := by simp [enA]
theorem enA_get (E : List En) (i j : Nat) (h : j < E.length * 2) : (enA E i)[j]? = some (if j < i then (E.flatMap EnC).getD j (.slice none 0 0) else .slice none 0 0) := by
 unfold enA
 rw [List.getElem?_toArray,List.getElem?_map,List.getElem?_range h]
 rfl
theorem enA_ext {A : Array Value} {E : List En} {i : Nat} (hs : A.size = E.length * 2) (h : ∀ j,j < E.length * 2 → A[j]? = (enA E i)[j]?) : A = enA E i := by
 refine Array.ext_getElem? fun j => ?_
 rcases Nat.lt_or_ge j (E.length * 2) with hj | hj
 ·exact h j hj
 ·rw [Array.getElem?_eq_none (by omega),Array.getElem?_eq_none (by rw [enA_size]; omega)]
theorem enA_set {E : List En} {i : Nat} {v : Value} (hi : i < E.length * 2) (hv : (E.flatMap EnC).getD i (.slice none 0 0) = v) : (enA E i).setIfInBounds i v = enA E (i + 1) := by
 refine enA_ext (by rw [Array.size_setIfInBounds,enA_size]) fun j hj => ?_
 rw [Array.getElem?_setIfInBounds,enA_get _ _ _ hj,enA_get _ _ _ hj]
 by_cases e : i = j
 ·subst e
  rw [if_pos rfl,if_pos (by rw [enA_size]; exact hi),if_pos (Nat.lt_succ_self _),hv]
 ·rw [if_neg e]
  by_cases h2 : j < i
  ·rw [if_pos h2,if_pos (by omega)]
  ·rw [if_neg h2,if_neg (by omega)]
theorem enA_skip {E : List En} {i : Nat} (hv : (E.flatMap EnC).getD i (.slice none 0 0) = .slice none 0 0) : enA E i = enA E (i + 1) := by
 refine enA_ext (enA_size _ _) fun j hj => ?_
 rw [enA_get _ _ _ hj,enA_get _ _ _ hj]
 by_cases e : i = j
 ·subst e
  rw [if_neg (Nat.lt_irrefl _),if_pos (Nat.lt_succ_self _),hv]
 ·by_cases h2 : j < i
  ·rw [if_pos h2,if_pos (by omega)]
  ·rw [if_neg h2,if_neg (by omega)]
theorem enA_full (E : List En) : (enA E (E.length * 2)).toList = E.flatMap EnC := by
 refine List.ext_getElem? fun j => ?_
 rcases Nat.lt_or_ge j (E.length * 2) with hj | hj
 ·rw [Array.getElem?_toList,enA_get _ _ _ hj,if_pos hj,List.getD_eq_getElem?_getD,List.getElem?_eq_getElem (by rw [enC_len]; exact hj)]
  rfl
 ·rw [List.getElem?_eq_none (by rw [Array.length_toList,enA_size]; omega),List.getElem?_eq_none (by rw [enC_len]; omega)]
theorem enA_made (E : List En) : madeCells (Value.cells (.agg #[.slice none 0 0,.slice none 0 0])) (E.length * 2) = enA E 0 := by
 refine enA_ext (size_madeCells _ _) fun j hj => ?_
 rw [enA_get _ _ _ hj,if_neg (Nat.not_lt_zero _)]
 unfold madeCells
 rw [Array.getElem?_map,Array.getElem?_range,if_pos hj]
 rcases Nat.mod_two_eq_zero_or_one j with h | h
 ·show some ((#[Value.slice none 0 0,Value.slice none 0 0] : Array Value)[j % 2]!) = _
  rw [h]; rfl
 ·show some ((#[Value.slice none 0 0,Value.slice none 0 0] : Array Value)[j % 2]!) = _
  rw [h]; rfl
theorem infoEn : (Tryz.prog.info? 48).map (fun i => (i.zero,i.size,i.bytes)) = some (some (.agg #[.slice none 0 0,.slice none 0 0]),2,48) := by kernel_rfl
theorem run_makeEn (E : List En) (n : Nat) (hE : E.length = n) (hn : n ≤ 1048576) (w : World) : (Instr.makeSlice 35 (.int .i64 (n : Int)) (.int .i64 (n : Int))).run Tryz.prog w = .ok (.slice (some ⟨w.heap.size,0,none⟩) n n) (w.alloc (.cells (enA E 0) 48)) := by
 obtain ⟨i0,hi0,hz0,hz1,hz2⟩ := info_parts infoEn
 have h := run_make (P := Tryz.prog) w 35 48 i0 (.agg #[.slice none 0 0,.slice none 0 0]) Tryz.underlying35 hi0 hz0 .i64 .i64 n n (by omega) (by omega) (by rw [hz2]; omega) (by omega)
 rw [hz1] at h
 simp only [Int.toNat_natCast] at h
 rw [← enA_made,hE]
 exact h
theorem getD_tx {L : List Tx} {i : Nat} (h : i < L.length) : L.getD i nilT = L[i] := by simp [h]
def EnP (W : World) (E : List En) (e : Ending) (w' : World) : Prop := ∃ g,e = .returned (.slice (some ⟨g,0,none⟩) E.length E.length) ∧ w'.ownsRow W.heap.size 48 2 (.slice (some ⟨g,0,none⟩) E.length E.length) E.length (E.flatMap EnC) ∧ Below W.heap.size W w'
set_option maxHeartbeats 3200000 in
theorem sentries_any (k v : TL) (c : IL) (W : World) (hk : k.Ok W) (hv : v.Ok W) (hz : k.L.length ≤ 1048576) (hzv : v.L.length ≤ 140737488352000) :
  Calls Tryz.prog 65 #[.agg #[k.v,v.v,c.v]] W (EnP W (zipE k.L v.L)) := by
 obtain ⟨ka,kc,K⟩ := k
 obtain ⟨va,vc,V⟩ := v
 obtain ⟨ca,cc,C⟩ := c
 simp only [TL.v,IL.v]
 simp only at hz hzv
 obtain ⟨E,hE⟩ : ∃ E,E = zipE K V := ⟨_,rfl⟩
 rw [← hE]
 obtain ⟨lk,hlk⟩ : ∃ x,K.length = x := ⟨_,rfl⟩
 obtain ⟨lw,hlw⟩ : ∃ x,V.length = x := ⟨_,rfl⟩
 obtain ⟨lc,hlc⟩ : ∃ x,C.length = x := ⟨_,rfl⟩
 rw [hlk] at hz ⊢
 rw [hlw] at hzv ⊢
 rw [hlc]
 have hEl : E.length = lk := by rw [hE,zipE_len,hlk]
 have HEl := hide hEl
 have HE0 : Hid (∀ i (h : i < lk),∃ h2 : i < E.length,E[i] = (K.getD i nilT,V.getD i nilT)) := fun i h => ⟨by rw [hEl]; exact h,by subst hE; simp [zipE]⟩
 have HEC : Hid (∀ i,i < lk → (E.flatMap EnC).getD (i * 2) (.slice none 0 0) = (K.getD i nilT).v ∧ (E.flatMap EnC).getD (i * 2 + 1) (.slice none 0 0) = (V.getD i nilT).v) := fun i h => by
  obtain ⟨h2,h3⟩ := HE0.out i h
  have e0 := enC_at E i 0 h2 (by omega)
  have e1 := enC_at E i 1 h2 (by omega)
  rw [Nat.add_zero] at e0
  refine ⟨?_,?_⟩
  ·rw [List.getD_eq_getElem?_getD,e0,h3]; rfl
  ·rw [List.getD_eq_getElem?_getD,e1,h3]; rfl
 obtain ⟨w1,hw1⟩ : ∃ x,x = W.alloc (.cells #[.slice ka lk kc,.slice va lw vc,.slice ca lc cc] 108) := ⟨_,rfl⟩
 have b1 : Below W.heap.size W w1 := by rw [hw1]; exact (Below.refl _ _).alloc (Nat.le_refl _) _
 have g1 : w1.heap[W.heap.size]? = some (.cells #[.slice ka lk kc,.slice va lw vc,.slice ca lc cc] 108 (0,0)) := by rw [hw1]; exact heap_alloc_new W _
 have z1 : w1.heap.size = W.heap.size + 1 := by rw [hw1]; simp
 have HW1 : Hid (W.alloc (.cells #[.slice ka lk kc,.slice va lw vc,.slice ca lc cc] 108) = w1) := hw1.symm
 have MK := run_makeEn E lk hEl hz w1
 obtain ⟨w2,hw2⟩ : ∃ x,x = w1.alloc (.cells (enA E 0) 48) := ⟨_,rfl⟩
 rw [← hw2] at MK
 obtain ⟨g,hg⟩ : ∃ g,g = w1.heap.size := ⟨_,rfl⟩
 have G2 : w2.heap[g]? = some (.cells (enA E (0 * 2)) 48 (0,0)) := by rw [hw2,hg]; exact heap_alloc_new w1 _
 have b2 : Below w1.heap.size w1 w2 := by rw [hw2]; exact (Below.refl _ _).alloc (Nat.le_refl _) _
 rw [← hg] at MK
 have HB2 := hide (b1.trans (b2.mono b1.size))
 have T2 : Hid (w2.heap[W.heap.size]? = some (.cells #[.slice ka lk kc,.slice va lw vc,.slice ca lc cc] 108 (0,0))) := (b2.block _ (by omega)).trans g1
 have HG : Hid (g = W.heap.size + 1) := by show g = _; omega
 have hgn : ¬ W.heap.size = g := by have := HG.out; omega
 have HK0 := hide hk
 have HV0 := hide hv
 have HBR : Hid (∀ Y,Upd (fun b => b = g) w2 Y → Below W.heap.size W Y) := fun Y hu => HB2.out.trans (hu.below HB2.out.size (fun b hb e => by have := HG.out; omega))
 have HLK := hide hlk
 have HLW := hide hlw
 have HS0 : Hid (w2.heap[g]? = some (.cells (enA E (0 * 2)) 48 (0,0)) ∧ Upd (fun b => b = g) w2 w2) := ⟨G2,Upd.refl _ _⟩
 obtain ⟨d0,d1,d2⟩ := tri_at g1
 have hz' : (lk : Int) ≤ 1048576 := by omega
 clear hw1 hw2 b1 b2 z1 hg G2 hk hv hlk hlw hlc hE hEl HE0
 go_enter Tryz.func65,Tryz.ntmps65
 go_upto_region 1 with fail
 rw [HW1.out]
 go_upto_region 2 with fail
 clear MK d0 d1 d2 g1
 obtain ⟨d0,d1,d2⟩ := tri_at T2.out
 go_wp2_with fail
 go_loopw [13] (fun q13 wr => ∃ i : Nat,i ≤ lk ∧ q13 = .int .i64 (i : Int) ∧ Hid (wr.heap[g]? = some (.cells (enA E (i * 2)) 48 (0,0)) ∧ Upd (fun b => b = g) w2 wr)) (fun q13 _ => lk - (intOf q13).toNat)
 case atStart => exact ⟨0,Nat.zero_le _,rfl,HS0⟩
 case round =>
  clear HS0 d0 d1 d2
  obtain ⟨i,hi,rfl,HI⟩ := hrel
  rename World => wr
  by_cases hlt : i < lk
  ·have j1 : (i : Int) < (lk : Int) := by omega
   obtain ⟨d0,d1,d2⟩ := tri_at (HI.out.2.heap T2.out hgn)
   have hiK : i < K.length := by rw [HLK.out]; exact hlt
   obtain ⟨bK,oK,hka,ck0⟩ := HK0.out.r i hiK
   simp only at hka
   subst hka
   have hbr := HBR.out wr HI.out.2
   have hlK := World.block_lt_of_cell? W ⟨bK,oK + i,none⟩ ck0
   simp only at hlK
   have ck : wr.cell? ⟨bK,oK + i,none⟩ = some K[i].v := (hbr.cell (p := ⟨bK,oK + i,none⟩) hlK).trans ck0
   have hn1 : ¬ bK = g := by have := HG.out; omega
   have hn2 : ¬ g = bK := by have := HG.out; omega
   have hgn2 : ¬ g = W.heap.size := by have := HG.out; omega
   have hec := HEC.out i hlt
   rw [getD_tx hiK] at hec
   have gi : wr.cell? ⟨g,i * 2,none⟩ = some (.slice none 0 0) := by
    rw [cell_of_row _ _ _ _ _ _ HI.out.1,enA_get _ _ _ (by have := HEl.out; omega),if_neg (by omega)]
   have fz := fun j => frozen_of HI.out.1 j
   obtain ⟨kx,hkx⟩ : ∃ kx,K[i] = kx := ⟨_,rfl⟩
   rw [hkx] at ck hec
   obtain ⟨xa,xc,xz⟩ := kx
   simp only [Tx.v] at ck hec
   obtain ⟨xl,hxl⟩ : ∃ x,xz.length = x := ⟨_,rfl⟩
   rw [hxl] at ck hec
   have H3 : Hid ((wr.setCell ⟨g,i * 2,none⟩ (.slice xa xl xc)).heap[g]? = some (.cells (enA E (i * 2 + 1)) 48 (0,0)) ∧ Upd (fun b => b = g) w2 (wr.setCell ⟨g,i * 2,none⟩ (.slice xa xl xc))) := by
    refine ⟨?_,HI.out.2.trans ((Upd.refl _ _).setCell _ _ (fun _ => rfl))⟩
    rw [← enA_set (by have := HEl.out; omega) hec.1]
    exact block_setCell HI.out.1 (i * 2) _
   have hfit : (i : Int) < 9223372036854775807 := by omega
   obtain ⟨w3,hw3⟩ : ∃ x,x = wr.setCell ⟨g,i * 2,none⟩ (.slice xa xl xc) := ⟨_,rfl⟩
   rw [← hw3] at H3
   have HW3 := hide hw3
   have HEC2 := hide hec.2
   clear hec ck0 hkx hxl hlK hbr hw3
   go_upto_region 6 with fail
   rw [← HW3.out]
   clear ck gi fz hn1 hn2 d0 d1 d2 HI
   obtain ⟨d0,d1,d2⟩ := tri_at (H3.out.2.heap T2.out hgn)
   by_cases hlt2 : i < lw
   ·have j2 : (i : Int) < (lw : Int) := by omega
    have hiV : i < V.length := by rw [HLW.out]; exact hlt2
    obtain ⟨bV,oV,hva,cv0⟩ := HV0.out.r i hiV
    simp only at hva
    subst hva
    have hbr := HBR.out w3 H3.out.2
    have hlV := World.block_lt_of_cell? W ⟨bV,oV + i,none⟩ cv0
    simp only at hlV
    have cv : w3.cell? ⟨bV,oV + i,none⟩ = some V[i].v := (hbr.cell (p := ⟨bV,oV + i,none⟩) hlV).trans cv0
    have hn1 : ¬ bV = g := by have := HG.out; omega
    have hn2 : ¬ g = bV := by have := HG.out; omega
    have hec := HEC2.out
    rw [getD_tx hiV] at hec
    have gi : w3.cell? ⟨g,i * 2 + 1,none⟩ = some (.slice none 0 0) := by
     rw [cell_of_row _ _ _ _ _ _ H3.out.1,enA_get _ _ _ (by have := HEl.out; omega),if_neg (by omega)]
    have fz := fun j => frozen_of H3.out.1 j
    obtain ⟨vx,hvx⟩ : ∃ vx,V[i] = vx := ⟨_,rfl⟩
    rw [hvx] at cv hec
    obtain ⟨ya,yc,yz⟩ := vx
    simp only [Tx.v] at cv hec
    obtain ⟨yl,hyl⟩ : ∃ x,yz.length = x := ⟨_,rfl⟩
    rw [hyl] at cv hec
    have H4 : Hid ((w3.setCell ⟨g,i * 2 + 1,none⟩ (.slice ya yl yc)).heap[g]? = some (.cells (enA E ((i + 1) * 2)) 48 (0,0)) ∧ Upd (fun b => b = g) w2 (w3.setCell ⟨g,i * 2 + 1,none⟩ (.slice ya yl yc))) := by
     refine ⟨?_,H3.out.2.trans ((Upd.refl _ _).setCell _ _ (fun _ => rfl))⟩
     rw [show (i + 1) * 2 = i * 2 + 1 + 1 by omega,← enA_set (by have := HEl.out; omega) hec]
     exact block_setCell H3.out.1 (i * 2 + 1) _
    clear hec cv0 hvx hyl hlV hbr
    go_wp2_with fail
    go_roundw
    case rel => exact ⟨i + 1,by omega,by go_num,H4⟩
    case measure => simp [intOf]; omega
   ·have j2 : ¬ (i : Int) < (lw : Int) := by omega
    have H4 : Hid (w3.heap[g]? = some (.cells (enA E ((i + 1) * 2)) 48 (0,0)) ∧ Upd (fun b => b = g) w2 w3) := by
     refine ⟨?_,H3.out.2⟩
     have h1 := HEC2.out
     rw [show V.getD i nilT = nilT by rw [List.getD_eq_getElem?_getD,List.getElem?_eq_none (by rw [HLW.out]; omega)]; rfl] at h1
     rw [show (i + 1) * 2 = i * 2 + 1 + 1 by omega,← enA_skip h1]
     exact H3.out.1
    go_wp2_with fail
    go_roundw
    case rel => exact ⟨i + 1,by omega,by go_num,H4⟩
    case measure => simp [intOf]; omega
  ·have j1 : ¬ (i : Int) < (lk : Int) := by omega
   obtain rfl : i = lk := by omega
   have HFIN : Hid (EnP W E (.returned (.slice (some ⟨g,0,none⟩) i i)) wr) := by
    refine ⟨g,by rw [HEl.out],?_,HBR.out wr HI.out.2⟩
    rw [HEl.out]
    refine ⟨by rw [enC_len,HEl.out],.inr ⟨g,i,enA E (i * 2),rfl,by have := HG.out; omega,HI.out.1,Nat.le_refl _,by unfold maxLen; omega,by rw [enA_size,HEl.out],?_⟩⟩
    have h1 := enA_full E
    rw [HEl.out] at h1
    rw [h1]
    exact List.take_of_length_le (by rw [enC_len,HEl.out]; omega)
   go_wp2_with fail
   go_ret
   exact HFIN.out
structure UEns (W : World) (a : Option Addr) (O : List En) : Prop where
 c : ∀ i (h : i < O.length),∃ b o,a = some ⟨b,o,none⟩ ∧ b < W.heap.size ∧ W.cell? ⟨b,o + i * 2,none⟩ = some O[i].1.v ∧ W.cell? ⟨b,o + i * 2 + 1,none⟩ = some O[i].2.v
 ok : ∀ x ∈ O,x.1.Ok W ∧ x.2.Ok W
end Go.Proofs.YtljnapejgjffjaaGreat
