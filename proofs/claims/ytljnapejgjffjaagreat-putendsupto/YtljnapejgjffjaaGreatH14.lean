/- Texts of one's own. -/
import Derived.Test.YtljnapejgjffjaaGreatH12
import Derived.Laws.BytesArg
namespace Go.Proofs.YtljnapejgjffjaaGreat
open Go.RowKit
set_option maxRecDepth 100000
theorem nbytesOf_inj {xs ys : List Int} (hx : B8 xs) (hy : B8 ys) (h1 : Lib.bytesOf xs = Lib.bytesOf ys) : xs = ys := by
 unfold Lib.bytesOf at h1
 induction xs generalizing ys with
 | nil => cases ys with
  | nil => rfl
  | cons y ys => simp at h1
 | cons x xs ih => cases ys with
  | nil => simp at h1
  | cons y ys =>
   simp only [List.map_cons,List.cons.injEq] at h1
   have a := hx.head
   have b := hy.head
   have e := congrArg UInt8.toNat h1.1
   simp only [UInt8.toNat_ofNat'] at e
   have e2 : x = y := by omega
   rw [e2,ih hx.tail hy.tail h1.2]
theorem nconv_row {w : World} {a : Option Addr} {len : Nat} (cap : Nat) {zs : List Int} (hl : zs.length = len) (hr : Row w .u8 a zs) :
  (convert 29 9 (.slice a len cap)).run Tryz.prog w = .ok (.string (strOfNums zs)) w := by
 by_cases h0 : len = 0
 ·subst h0
  obtain rfl : zs = [] := List.eq_nil_of_length_eq_zero hl
  rw [run_convert_bytes_string w 29 9 5 _ 0 cap Tryz.underlying29 Tryz.underlying5 Tryz.underlying9]
  cases a <;> simp [Conv.bytesToString,loadCells]
  all_goals rfl
 ·obtain ⟨b,o,rfl,_,hc⟩ := hr.cons (by omega)
  exact run_convert_bytes_arg (P := Tryz.prog) w 29 5 Tryz.underlying29 Tryz.underlying5 b o len cap zs hl (by rw [← hl]; exact hc) 9 Tryz.underlying9
set_option maxHeartbeats 400000 in
theorem nequal_any (a1 a2 : Option Addr) (l1 c1 l2 c2 : Nat) (xs ys : List Int) (w : World) (h1 : xs.length = l1) (h2 : ys.length = l2) (r1 : Row w .u8 a1 xs) (r2 : Row w .u8 a2 ys) (b1 : B8 xs) (b2 : B8 ys) :
  Calls Tryz.prog 148 #[.slice a1 l1 c1,.slice a2 l2 c2] w fun e w' => e = .returned (.bool (decide (xs = ys))) ∧ w' = w := by
 have k1 := nconv_row c1 h1 r1
 have k2 := nconv_row c2 h2 r2
 have HE : Hid (((strOfNums xs).toList == (strOfNums ys).toList) = decide (xs = ys)) := by
  show _ = _
  rw [Lib.strOfNums_toList,Lib.strOfNums_toList]
  by_cases h : xs = ys
  ·subst h; simp
  ·rw [decide_eq_false h,beq_eq_false_iff_ne]
   exact fun e => h (nbytesOf_inj b1 b2 e)
 clear r1 r2
 go_enter Tryz.func148,Tryz.ntmps148
 go_wp2
 go_ret
 exact ⟨by rw [← HE.out]; rfl,rfl⟩
def cntB (ks : List (List Int)) (key : List Int) : Nat := ks.countP fun k => decide (cmpI k key < 0)
def isIn (ks : List (List Int)) (key : List Int) : Bool := ks.any fun k => decide (k = key)
def cntL (ks : List (List Int)) (key : List Int) : Nat := ks.countP fun k => decide (0 ≤ cmpI key k)
theorem take_next {α : Type} {l : List α} {i : Nat} (h : i < l.length) : l.take (i + 1) = l.take i ++ [l[i]] := by
 rw [List.take_add_one,List.getElem?_eq_getElem h]; rfl
theorem cntB_next {ks : List (List Int)} {key : List Int} {i : Nat} (h : i < ks.length) : cntB (ks.take (i + 1)) key = cntB (ks.take i) key + if cmpI ks[i] key < 0 then 1 else 0 := by
 unfold cntB
 rw [take_next h,List.countP_append]
 simp [List.countP_cons]
theorem cntL_next {ks : List (List Int)} {key : List Int} {i : Nat} (h : i < ks.length) : cntL (ks.take (i + 1)) key = cntL (ks.take i) key + if 0 ≤ cmpI key ks[i] then 1 else 0 := by
 unfold cntL
 rw [take_next h,List.countP_append]
 simp [List.countP_cons]
theorem isIn_next {ks : List (List Int)} {key : List Int} {i : Nat} (h : i < ks.length) : isIn (ks.take (i + 1)) key = (isIn (ks.take i) key || decide (ks[i] = key)) := by
 unfold isIn
 rw [take_next h,List.any_append]
 simp
theorem cntB_le (ks : List (List Int)) (key : List Int) : cntB ks key ≤ ks.length := List.countP_le_length
theorem cntL_le (ks : List (List Int)) (key : List Int) : cntL ks key ≤ ks.length := List.countP_le_length
set_option maxHeartbeats 400000 in
theorem nbelow_any (a b : Option Addr) (l1 c1 l2 c2 : Nat) (xs ys : List Int) (w : World) (h1 : xs.length = l1) (h2 : ys.length = l2) (r1 : Row w .u8 a xs) (r2 : Row w .u8 b ys) (b1 : B8 xs) (b2 : B8 ys) :
  Calls Tryz.prog 176 #[.slice a l1 c1,.slice b l2 c2] w fun e w' => e = .returned (.bool (decide (cmpI xs ys < 0))) ∧ w' = w := by
 have HC := hide (bcompare_any a b l1 c1 l2 c2 xs ys w h1 h2 r1 r2 b1 b2)
 clear r1 r2 b1 b2
 go_enter Tryz.func176,Tryz.ntmps176
 go_wp2_with fail
 refine keep HC.out ?_
 go_wp2
 go_ret
 exact ⟨rfl,rfl⟩
def beyB (hi key : List Int) : Bool := decide (0 < hi.length) && decide (0 ≤ cmpI key hi)
set_option maxHeartbeats 400000 in
theorem beyond_any (n : Nd) (k : Tx) (w : World) (hn : n.Ok w) (hk : k.Ok w) :
  Calls Tryz.prog 194 #[n.v,k.v] w fun e w' => e = .returned (.bool (beyB n.hi.s k.s)) ∧ Below w.heap.size w w' := by
 obtain ⟨lv,⟨ha,hc,hs⟩,ri,⟨ka,kc,K⟩,⟨va,vc,V⟩,⟨ca,cc,C⟩⟩ := n
 obtain ⟨xa,xc,xs⟩ := k
 have HH : Hid (∀ W,Below w.heap.size w W → (⟨ha,hc,hs⟩ : Tx).Ok W) := fun W h => hn.h.below h
 have HK : Hid (∀ W,Below w.heap.size w W → (⟨xa,xc,xs⟩ : Tx).Ok W) := fun W h => hk.below h
 clear hn hk
 simp only [Nd.v,Tx.v,TL.v,IL.v,beyB]
 obtain ⟨lh,hlh⟩ : ∃ lh,hs.length = lh := ⟨_,rfl⟩
 obtain ⟨lx,hlx⟩ : ∃ lx,xs.length = lx := ⟨_,rfl⟩
 rw [hlh,hlx]
 replace hlh := hide hlh
 replace hlx := hide hlx
 by_cases h0 : 0 < lh
 ·have i1 : (0 : Int) < (lh : Int) := by omega
  have HE : Hid ((!decide (cmpI xs hs < 0)) = decide (0 ≤ cmpI xs hs)) := by
   show _ = _
   by_cases h : cmpI xs hs < 0
   ·rw [decide_eq_true h,decide_eq_false (by omega)]; rfl
   ·rw [decide_eq_false h,decide_eq_true (by omega)]; rfl
  rw [decide_eq_true h0,Bool.true_and,← HE.out]
  clear HE
  obtain ⟨d,hd⟩ : ∃ d,d = decide (cmpI xs hs < 0) := ⟨_,rfl⟩
  have HBL := hide (fun W (h : Below w.heap.size w W) => nbelow_any xa ha lx xc lh hc xs hs W hlx.out hlh.out (HK.out _ h).r (HH.out _ h).r (HK.out _ h).b8 (HH.out _ h).b8)
  rw [← hd] at HBL ⊢
  clear hd
  go_enter Tryz.func194,Tryz.ntmps194
  go_wp2_with fail
  refine keep (HBL.out _ ((Below.refl _ _).alloc (Nat.le_refl _) _)) ?_
  go_wp2_with fail
  go_ret
  exact ⟨rfl,(Below.refl _ _).alloc (Nat.le_refl _) _⟩
 ·obtain rfl : lh = 0 := by omega
  rw [decide_eq_false h0,Bool.false_and]
  clear h0
  go_enter Tryz.func194,Tryz.ntmps194
  go_wp2_with fail
  go_ret
  exact ⟨rfl,(Below.refl _ _).alloc (Nat.le_refl _) _⟩
set_option maxHeartbeats 1600000 in
theorem find_any (n : Nd) (k : Tx) (w : World) (hn : n.Ok w) (hk : k.Ok w) :
  Calls Tryz.prog 155 #[n.v,k.v] w fun e w' => e = .returned (.tuple #[.int .i64 (cntB n.ks.p k.s : Nat),.bool (isIn n.ks.p k.s)]) ∧ Below w.heap.size w w' := by
 obtain ⟨lv,⟨ha,hc,hs⟩,ri,⟨ka,kc,K⟩,⟨va,vc,V⟩,⟨ca,cc,C⟩⟩ := n
 obtain ⟨xa,xc,xs⟩ := k
 have HS : Hid (∀ W,Below w.heap.size w W → (⟨ka,kc,K⟩ : TL).Ok W) := fun W h => hn.k.below h
 have HK : Hid (∀ W,Below w.heap.size w W → (⟨xa,xc,xs⟩ : Tx).Ok W) := fun W h => hk.below h
 have hz := hn.kz
 clear hn hk
 simp only [Nd.v,Tx.v,TL.v,IL.v]
 simp only at hz
 obtain ⟨ps,hps⟩ : ∃ ps,ps = (⟨ka,kc,K⟩ : TL).p := ⟨_,rfl⟩
 rw [← hps]
 have hpl : ps.length = K.length := by rw [hps]; simp [TL.p]
 have HPS : Hid (∀ i (h : i < K.length),ps[i]? = some K[i].s) := fun i h => by rw [hps]; simp [TL.p,h]
 obtain ⟨lk,hlk⟩ : ∃ lk,K.length = lk := ⟨_,rfl⟩
 obtain ⟨lx,hlx⟩ : ∃ lx,xs.length = lx := ⟨_,rfl⟩
 rw [hlk] at hz hpl
 rw [hlk,hlx]
 replace hlk := hide hlk
 replace hlx := hide hlx
 have HPL := hide hpl
 clear hps hpl
 go_enter Tryz.func155,Tryz.ntmps155
 go_wp2_with fail
 go_loopw [6,7,14] (fun q6 q7 q14 wr => ∃ i : Nat,i ≤ lk ∧ q6 = .int .i64 (cntB (ps.take i) xs : Nat) ∧ q7 = .bool (isIn (ps.take i) xs) ∧ q14 = .int .i64 (i : Int) ∧ Hid (Below w.heap.size w wr)) (fun _ _ q14 _ => lk - (intOf q14).toNat)
 case atStart => exact ⟨0,Nat.zero_le _,by simp [cntB],by simp [isIn],rfl,(Below.refl _ _).alloc (Nat.le_refl _) _⟩
 case round =>
  obtain ⟨i,hi,rfl,rfl,rfl,HB⟩ := hrel
  rename World => wr
  by_cases hlt : i < lk
  ·have j1 : (i : Int) < (lk : Int) := by omega
   have hiK : i < K.length := by rw [hlk.out]; exact hlt
   have hS := HS.out wr HB.out
   obtain ⟨b,o,hka,s0⟩ := hS.r i hiK
   simp only at hka
   subst hka
   have OK := hide (hS.ok K[i] (List.getElem_mem hiK))
   have hip : i < ps.length := by rw [HPL.out]; exact hlt
   have hpi : ps[i] = K[i].s := by have := HPS.out i hiK; rw [List.getElem?_eq_getElem hip] at this; exact Option.some.inj this
   have e1 := cntB_next (key := xs) hip
   have e2 := isIn_next (key := xs) hip
   rw [hpi] at e1 e2
   obtain ⟨kk,hkk⟩ : ∃ kk,K[i] = kk := ⟨_,rfl⟩
   simp only [hkk] at s0 OK e1 e2
   unfold Tx.v at s0
   obtain ⟨nk,hnk⟩ : ∃ nk,kk.s.length = nk := ⟨_,rfl⟩
   rw [hnk] at s0
   have hcb := cntB_le (ps.take i) xs
   have hct : (ps.take i).length ≤ i := by rw [List.length_take]; omega
   obtain ⟨cb,hcb'⟩ : ∃ cb,cb = cntB (ps.take i) xs := ⟨_,rfl⟩
   obtain ⟨ib,hib⟩ : ∃ ib,ib = isIn (ps.take i) xs := ⟨_,rfl⟩
   rw [← hcb'] at e1 hcb ⊢
   rw [← hib] at e2 ⊢
   have hcb2 : cb ≤ i := by omega
   have HBL := hide (nbelow_any kk.a xa nk kk.c lx xc kk.s xs wr hnk hlx.out OK.out.r (HK.out wr HB.out).r OK.out.b8 (HK.out wr HB.out).b8)
   have HEQ := hide (nequal_any kk.a xa nk kk.c lx xc kk.s xs wr hnk hlx.out OK.out.r (HK.out wr HB.out).r OK.out.b8 (HK.out wr HB.out).b8)
   have E1 := hide e1
   have E2 := hide e2
   clear hS hpi e1 e2 hkk hnk hcb hct hcb' hib HPS
   by_cases hc : cmpI kk.s xs < 0
   ·rw [decide_eq_true hc] at HBL
    rw [if_pos hc] at E1
    clear hc
    cases ib with
    | true =>
     go_wp2_with fail
     refine keep HBL.out ?_
     go_wp2_with fail
     go_roundw
     case rel => exact ⟨i + 1,by omega,by rw [E1.out]; go_num,by rw [E2.out]; rfl,by go_num,HB⟩
     case measure => simp [intOf]; omega
    | false =>
     generalize decide (kk.s = xs) = d at *
     go_wp2_with fail
     refine keep HBL.out ?_
     go_wp2_with fail
     refine keep HEQ.out ?_
     go_wp2_with fail
     go_roundw
     case rel => exact ⟨i + 1,by omega,by rw [E1.out]; go_num,by rw [E2.out]; rfl,by go_num,HB⟩
     case measure => simp [intOf]; omega
   ·rw [decide_eq_false hc] at HBL
    rw [if_neg hc] at E1
    clear hc
    cases ib with
    | true =>
     go_wp2_with fail
     refine keep HBL.out ?_
     go_wp2_with fail
     go_roundw
     case rel => exact ⟨i + 1,by omega,by rw [E1.out]; rfl,by rw [E2.out]; rfl,by go_num,HB⟩
     case measure => simp [intOf]; omega
    | false =>
     generalize decide (kk.s = xs) = d at *
     go_wp2_with fail
     refine keep HBL.out ?_
     go_wp2_with fail
     refine keep HEQ.out ?_
     go_wp2_with fail
     go_roundw
     case rel => exact ⟨i + 1,by omega,by rw [E1.out]; rfl,by rw [E2.out]; rfl,by go_num,HB⟩
     case measure => simp [intOf]; omega
  ·have j1 : ¬ (i : Int) < (lk : Int) := by omega
   obtain rfl : i = lk := by omega
   have HT : Hid (ps.take i = ps) := List.take_of_length_le (by rw [HPL.out]; exact Nat.le_refl _)
   rw [HT.out]
   obtain ⟨cb,hcb⟩ : ∃ cb,cb = cntB ps xs := ⟨_,rfl⟩
   obtain ⟨ib,hib⟩ : ∃ ib,ib = isIn ps xs := ⟨_,rfl⟩
   rw [← hcb,← hib]
   replace hcb := hide hcb
   replace hib := hide hib
   go_wp2_with fail
   go_ret2
   exact ⟨by rw [← hcb.out,← hib.out]; rfl,HB.out⟩
def chiN (ks : List (List Int)) (cs : List Int) (key : List Int) : Int := if cs.length = 0 then 0 else cs.getD (min (cntL ks key) (cs.length - 1)) 0
set_option maxHeartbeats 1600000 in
theorem child_any (n : Nd) (k : Tx) (w : World) (hn : n.Ok w) (hk : k.Ok w) :
  Calls Tryz.prog 214 #[n.v,k.v] w fun e w' => e = .returned (.int .i64 (chiN n.ks.p n.cs.s k.s)) ∧ Below w.heap.size w w' := by
 obtain ⟨lv,⟨ha,hc,hs⟩,ri,⟨ka,kc,K⟩,⟨va,vc,V⟩,⟨ca,cc,C⟩⟩ := n
 obtain ⟨xa,xc,xs⟩ := k
 have HS : Hid (∀ W,Below w.heap.size w W → (⟨ka,kc,K⟩ : TL).Ok W) := fun W h => hn.k.below h
 have HK : Hid (∀ W,Below w.heap.size w W → (⟨xa,xc,xs⟩ : Tx).Ok W) := fun W h => hk.below h
 have HC : Hid (∀ W,Below w.heap.size w W → (⟨ca,cc,C⟩ : IL).Ok W) := fun W h => hn.c.below h
 have hz := hn.kz
 have hzc := hn.cz
 clear hn hk
 simp only [Nd.v,Tx.v,TL.v,IL.v]
 simp only at hz hzc
 obtain ⟨ps,hps⟩ : ∃ ps,ps = (⟨ka,kc,K⟩ : TL).p := ⟨_,rfl⟩
 rw [← hps]
 have hpl : ps.length = K.length := by rw [hps]; simp [TL.p]
 have HPS : Hid (∀ i (h : i < K.length),ps[i]? = some K[i].s) := fun i h => by rw [hps]; simp [TL.p,h]
 obtain ⟨lk,hlk⟩ : ∃ lk,K.length = lk := ⟨_,rfl⟩
 obtain ⟨lx,hlx⟩ : ∃ lx,xs.length = lx := ⟨_,rfl⟩
 obtain ⟨lc,hlc⟩ : ∃ lc,C.length = lc := ⟨_,rfl⟩
 have HV : Hid (chiN ps C xs = if lc = 0 then 0 else C.getD (min (cntL ps xs) (lc - 1)) 0) := by show _ = _; unfold chiN; rw [hlc]
 obtain ⟨R,hR⟩ : ∃ R,R = chiN ps C xs := ⟨_,rfl⟩
 rw [← hR]
 rw [HV.out] at hR
 clear HV
 rw [hlk] at hz hpl
 rw [hlc] at hzc
 rw [hlk,hlx,hlc]
 replace hlk := hide hlk
 replace hlx := hide hlx
 replace hlc := hide hlc
 have HPL := hide hpl
 clear hps hpl
 by_cases h0 : lc = 0
 ·subst h0
  rw [if_pos rfl] at hR
  subst hR
  go_enter Tryz.func214,Tryz.ntmps214
  go_wp2_with fail
  go_ret
  exact ⟨rfl,(Below.refl _ _).alloc (Nat.le_refl _) _⟩
 ·rw [if_neg h0] at hR
  replace hR := hide hR
  have j0 : ((lc : Int) == 0) = false := by rw [beq_eq_false_iff_ne]; omega
  obtain ⟨w1,hw1⟩ : ∃ w1,w1 = w.alloc (.cells #[.int .i64 lv,.slice ha hs.length hc,.int .i64 ri,.slice ka lk kc,.slice va V.length vc,.slice ca lc cc] 110) := ⟨_,rfl⟩
  have c5 : w1.cell? ⟨w.heap.size,5,none⟩ = some (.slice ca lc cc) := by rw [hw1,cell_of_row _ _ _ _ _ _ (heap_alloc_new w _)]; rfl
  have B1 : Hid (Below w.heap.size w w1) := by show Below _ _ _; rw [hw1]; exact (Below.refl _ _).alloc (Nat.le_refl _) _
  have hw1' := hide hw1
  clear hw1
  go_enter Tryz.func214,Tryz.ntmps214
  go_wp2_with fail
  rw [← hw1'.out]
  go_loopw [5,17] (fun q5 q17 wr => ∃ i : Nat,i ≤ lk ∧ q5 = .int .i64 (cntL (ps.take i) xs : Nat) ∧ q17 = .int .i64 (i : Int) ∧ wr = w1) (fun _ q17 _ => lk - (intOf q17).toNat)
  case atStart => exact ⟨0,Nat.zero_le _,by simp [cntL],rfl,rfl⟩
  case round =>
   obtain ⟨i,hi,rfl,rfl,rfl⟩ := hrel
   by_cases hlt : i < lk
   ·have j1 : (i : Int) < (lk : Int) := by omega
    have hiK : i < K.length := by rw [hlk.out]; exact hlt
    have hS := HS.out _ B1.out
    obtain ⟨b,o,hka,s0⟩ := hS.r i hiK
    simp only at hka
    subst hka
    have OK := hide (hS.ok K[i] (List.getElem_mem hiK))
    have hip : i < ps.length := by rw [HPL.out]; exact hlt
    have hpi : ps[i] = K[i].s := by have := HPS.out i hiK; rw [List.getElem?_eq_getElem hip] at this; exact Option.some.inj this
    have e1 := cntL_next (key := xs) hip
    rw [hpi] at e1
    obtain ⟨kk,hkk⟩ : ∃ kk,K[i] = kk := ⟨_,rfl⟩
    simp only [hkk] at s0 OK e1
    unfold Tx.v at s0
    obtain ⟨nk,hnk⟩ : ∃ nk,kk.s.length = nk := ⟨_,rfl⟩
    rw [hnk] at s0
    have hcb := cntL_le (ps.take i) xs
    have hct : (ps.take i).length ≤ i := by rw [List.length_take]; omega
    obtain ⟨cb,hcb'⟩ : ∃ cb,cb = cntL (ps.take i) xs := ⟨_,rfl⟩
    rw [← hcb'] at e1 hcb ⊢
    have hcb2 : cb ≤ i := by omega
    have HBL := hide (nbelow_any xa kk.a lx xc nk kk.c xs kk.s wr hlx.out hnk (HK.out _ B1.out).r OK.out.r (HK.out _ B1.out).b8 OK.out.b8)
    have E1 := hide e1
    clear hS hpi e1 hkk hnk hcb hct hcb' HPS
    by_cases hc : cmpI xs kk.s < 0
    ·rw [decide_eq_true hc] at HBL
     rw [if_neg (by omega)] at E1
     clear hc
     go_wp2_with fail
     refine keep HBL.out ?_
     go_wp2_with fail
     go_roundw
     case rel => exact ⟨i + 1,by omega,by rw [E1.out]; rfl,by go_num,trivial⟩
     case measure => simp [intOf]; omega
    ·rw [decide_eq_false hc] at HBL
     rw [if_pos (by omega)] at E1
     clear hc
     go_wp2_with fail
     refine keep HBL.out ?_
     go_wp2_with fail
     go_roundw
     case rel => exact ⟨i + 1,by omega,by rw [E1.out]; go_num,by go_num,trivial⟩
     case measure => simp [intOf]; omega
   ·have j1 : ¬ (i : Int) < (lk : Int) := by omega
    obtain rfl : i = lk := by omega
    have HT : Hid (ps.take i = ps) := List.take_of_length_le (by rw [HPL.out]; exact Nat.le_refl _)
    rw [HT.out]
    have hcb := cntL_le ps xs
    rw [HPL.out] at hcb
    obtain ⟨cb,hcb'⟩ : ∃ cb,cb = cntL ps xs := ⟨_,rfl⟩
    rw [← hcb'] at hcb ⊢
    replace hcb' := hide hcb'
    obtain ⟨m,hm⟩ : ∃ m,m = min cb (lc - 1) := ⟨_,rfl⟩
    have hml : m < lc := by omega
    have HF : Hid (C.getD (min (cntL ps xs) (lc - 1)) 0 = C.getD m 0) := by show _ = _; rw [← hcb'.out,← hm]
    obtain ⟨b,o,hca,s0⟩ := (HC.out _ B1.out).r m (by rw [hlc.out]; exact hml)
    simp only at hca s0
    subst hca
    obtain ⟨y,hy⟩ : ∃ y,y = C.getD m 0 := ⟨_,rfl⟩
    rw [← hy] at s0 HF
    clear hy
    have j3 : (m : Int) < (lc : Int) := by omega
    by_cases hq : lc - 1 < cb
    ·have j2 : (lc : Int) - 1 < (cb : Int) := by omega
     obtain ⟨m',rfl⟩ : ∃ m',lc = m' + 1 := ⟨lc - 1,by omega⟩
     obtain rfl : m = m' := by omega
     have j4 : ((m + 1 : Nat) : Int) - 1 = (m : Int) := by omega
     clear hm
     go_wp2_with fail
     go_ret
     exact ⟨ret_int (HF.out.symm.trans hR.out.symm),B1.out⟩
    ·have j2 : ¬ (lc : Int) - 1 < (cb : Int) := by omega
     obtain rfl : m = cb := by omega
     clear hm
     go_wp2_with fail
     go_ret
     exact ⟨ret_int (HF.out.symm.trans hR.out.symm),B1.out⟩
theorem cmpI_end (xs ys : List Int) (k : Nat) (h : ∀ i,i < k → xs.getD i 0 = ys.getD i 0) (h1 : k ≤ xs.length) (h2 : k ≤ ys.length) (hk : k = xs.length ∨ k = ys.length) :
  cmpI xs ys = if xs.length < ys.length then -1 else if ys.length < xs.length then 1 else 0 := by
 have hc : comN xs ys = k := comN_of k xs ys h1 h2 h (by rcases hk with h | h <;> simp [h])
 rw [cmpI_com,hc]
 by_cases a : k = xs.length
 ·rw [if_pos a]
  by_cases b : k = ys.length
  ·rw [if_pos b,if_neg (by omega),if_neg (by omega)]
  ·rw [if_neg b,if_pos (by omega)]
 ·have b : k = ys.length := hk.resolve_left a
  rw [if_neg a,if_pos b,if_neg (by omega),if_pos (by omega)]
theorem cmpI_part (xs ys : List Int) (k : Nat) (h : ∀ i,i < k → xs.getD i 0 = ys.getD i 0) (h1 : k < xs.length) (h2 : k < ys.length) (hne : xs.getD k 0 ≠ ys.getD k 0) :
  cmpI xs ys = if xs.getD k 0 < ys.getD k 0 then -1 else 1 := by
 have hc : comN xs ys = k := comN_of k xs ys (by omega) (by omega) h (.inr (.inr hne))
 rw [cmpI_com,hc,if_neg (by omega),if_neg (by omega)]
set_option maxHeartbeats 1600000 in
theorem rcmp_any (a b : Option Addr) (l1 c1 l2 c2 : Nat) (xs ys : List Int) (w : World) (h1 : xs.length = l1) (h2 : ys.length = l2) (z1 : l1 ≤ 140737488355328) (z2 : l2 ≤ 140737488355328) (r1 : Row w .u8 a xs) (r2 : Row w .u8 b ys) :
  Calls Tryz.prog 106 #[.slice a l1 c1,.slice b l2 c2] w fun e w' => e = .returned (.int .i64 (cmpI xs ys)) ∧ ∃ m,w' = w.drewN m := by
 have R1 := hide r1
 have R2 := hide r2
 have H1 := hide h1
 have H2 := hide h2
 obtain ⟨cv,hcv⟩ : ∃ cv,cv = cmpI xs ys := ⟨_,rfl⟩
 rw [← hcv]
 replace hcv := hide hcv
 clear r1 r2 h1 h2
 go_enter Tryz.func106,Tryz.ntmps106
 go_wp2_with fail
 go_loopw [5] (fun q wr => ∃ k m : Nat,k ≤ l1 ∧ k ≤ l2 ∧ q = .int .i64 (k : Int) ∧ wr = w.drewN m ∧ Hid (∀ i,i < k → xs.getD i 0 = ys.getD i 0)) (fun q _ => l1 - (intOf q).toNat)
 case atStart => exact ⟨0,0,Nat.zero_le _,Nat.zero_le _,rfl,rfl,fun i hi => absurd hi (Nat.not_lt_zero i)⟩
 case round =>
  obtain ⟨k,m,hk1,hk2,rfl,rfl,HE⟩ := hrel
  by_cases hlt : k < l1 ∧ k < l2
  ·have i1 : (k : Int) < (l1 : Int) := by omega
   have i2 : (k : Int) < (l2 : Int) := by omega
   obtain ⟨b1,o1,rfl,g1⟩ := R1.out k (by rw [H1.out]; exact hlt.1)
   obtain ⟨b2,o2,rfl,g2⟩ := R2.out k (by rw [H2.out]; exact hlt.2)
   have HP : Hid (xs.getD k 0 ≠ ys.getD k 0 → cmpI xs ys = if xs.getD k 0 < ys.getD k 0 then -1 else 1) := fun h => cmpI_part xs ys k HE.out (by rw [H1.out]; exact hlt.1) (by rw [H2.out]; exact hlt.2) h
   have HQ : Hid (xs.getD k 0 = ys.getD k 0 → ∀ i,i < k + 1 → xs.getD i 0 = ys.getD i 0) := fun heq i hi => by
    by_cases e : i = k
    ·subst e; exact heq
    ·exact HE.out i (by omega)
   have hkk := hlt.1
   generalize xs.getD k 0 = c at *
   generalize ys.getD k 0 = d at *
   clear hlt
   rcases three c d with h | h | h
   ·have HF : Hid (cv = -1) := by show _ = _; rw [hcv.out,HP.out (by omega),if_pos h]
    go_wp2
    go_quiet (fail)
    go_wp2
    go_ret
    exact ⟨ret_int HF.out.symm,_,World.drewN_drewN _ _ _⟩
   ·subst h
    have i3 : ¬ c < c := Int.lt_irrefl c
    have HQ2 := hide (HQ.out rfl)
    clear HQ HP
    go_wp2
    go_quiet (fail)
    go_wp2
    go_quiet (fail)
    go_wp2
    go_roundw
    case rel => exact ⟨k + 1,_,by omega,by omega,by go_num,rfl,HQ2⟩
    case measure => simp [intOf]; omega
   ·have HF : Hid (cv = 1) := by show _ = _; rw [hcv.out,HP.out (by omega),if_neg (by omega)]
    have i3 : ¬ c < d := by omega
    go_wp2
    go_quiet (fail)
    go_wp2
    go_quiet (fail)
    go_wp2
    go_ret
    exact ⟨ret_int HF.out.symm,_,by rw [World.drewN_drewN,World.drewN_drewN]⟩
  ·have HC : Hid (cmpI xs ys = if l1 < l2 then -1 else if l2 < l1 then 1 else 0) := by
    show _ = _
    rw [cmpI_end xs ys k HE.out (by rw [H1.out]; exact hk1) (by rw [H2.out]; exact hk2) (by rw [H1.out,H2.out]; omega),H1.out,H2.out]
   have HD : Hid (¬ (k < l1 ∧ k < l2)) := hlt
   rcases Nat.lt_trichotomy l1 l2 with h | h | h
   ·have HF : Hid (cv = -1) := by show _ = _; rw [hcv.out,HC.out,if_pos h]
    have i1 : ¬ (k : Int) < (l1 : Int) := by omega
    have i3 : (l1 : Int) < (l2 : Int) := by omega
    clear hlt
    go_wp2
    go_ret
    exact ⟨ret_int HF.out.symm,_,rfl⟩
   ·subst h
    have HF : Hid (cv = 0) := by show _ = _; rw [hcv.out,HC.out,if_neg (by omega),if_neg (by omega)]
    have i1 : ¬ (k : Int) < (l1 : Int) := by omega
    clear hlt
    go_wp2
    go_ret
    exact ⟨ret_int HF.out.symm,_,rfl⟩
   ·have HF : Hid (cv = 1) := by show _ = _; rw [hcv.out,HC.out,if_neg (by omega),if_pos h]
    have i1 : (k : Int) < (l1 : Int) := by omega
    have i2 : ¬ (k : Int) < (l2 : Int) := by omega
    have i3 : ¬ (l1 : Int) < (l2 : Int) := by omega
    have i4 : (l2 : Int) < (l1 : Int) := by omega
    clear hlt
    go_wp2
    go_ret
    exact ⟨ret_int HF.out.symm,_,rfl⟩
def Rs (l : List (List Int)) : Prop := ∀ j,j < l.length - 1 → cmpI (l.getD j []) (l.getD (j + 1) []) < 0
instance (l : List (List Int)) : Decidable (Rs l) := by unfold Rs; exact inferInstance
theorem tl_getD {t : TL} {i : Nat} (h : i < t.L.length) : t.p.getD i [] = t.L[i].s := by simp [TL.p,h]
def RtP (p : NP) : Prop := Rs p.ks ∧ ((p.lv = 0 ∧ p.vs.length = p.ks.length ∧ p.cs.length = 0) ∨ (0 < p.lv ∧ p.vs.length = 0 ∧ p.cs.length = p.ks.length + 1))
instance (p : NP) : Decidable (RtP p) := by unfold RtP; exact inferInstance
theorem three_new {W : World} {b : Nat} {T : TypeId} {x0 x1 x2 : Value} (h : W.heap[b]? = some (.cells #[x0,x1,x2] T (0,0))) : W.cell? ⟨b,0,none⟩ = some x0 ∧ W.cell? ⟨b,1,none⟩ = some x1 ∧ W.cell? ⟨b,2,none⟩ = some x2 := by
 refine ⟨?_,?_,?_⟩ <;> (rw [cell_of_row _ _ _ _ _ _ h]; rfl)
end Go.Proofs.YtljnapejgjffjaaGreat
