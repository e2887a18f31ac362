/- Texts of one's own. -/
import Derived.Test.YtljnapejgjffjaaGreatH43
namespace Go.Proofs.YtljnapejgjffjaaGreat
open Go.RowKit
set_option maxRecDepth 100000
def MtP (W : World) (X : Nat → Prop) (B m N A : Nat) (ga : Option Addr) (gc : Nat) (la : Option Addr) (nd lf inn fl bk : Int) (s : AS) (O : List (List Sp)) (ov : List IL) (cur : List Sp) (id : Int) (low : Tx) (er : Int) (e : Ending) (w' : World) : Prop :=
 ∃ n : Nd,e = .returned (.tuple #[n.v,.int .i64 er]) ∧ Upd (LMut B m ga la) W w' ∧ (er = 0 → n.p = s.n id ∧ ∃ la' lc',LW w' X B m N A ga gc la' lc' nd lf inn fl bk s O ov (cur ++ [⟨id,low,n⟩]))
theorem zero_spot (w : World) : (zeroValue 219).run Tryz.prog w = .ok (.agg #[.int .i64 0,.slice none 0 0,.int .i64 0,.slice none 0 0,.slice none 0 0]) w := by kernel_rfl
theorem Sp.form (x : Sp) : ∃ a l c w ka kl kc ca cl cc,x.v = .agg #[.int .i64 x.n.lv,.slice a l c,.int .i64 w,.slice ka kl kc,.slice ca cl cc] := by
 unfold Sp.v Sp.kv Sp.cv
 by_cases h : 0 < x.n.lv
 ·rw [if_pos h,if_pos h]; exact ⟨_,_,_,_,_,_,_,_,_,_,rfl⟩
 ·rw [if_neg h,if_neg h]; exact ⟨_,_,_,_,_,_,_,_,_,_,rfl⟩
section
variable {W : World} {X : Nat → Prop} {B m N A : Nat} {ga la : Option Addr} {gc lc : Nat} {nd lf inn fl bk : Int} {s : AS} {O : List (List Sp)} {ov : List IL} {cur : List Sp} {F : Nat → Prop}
set_option maxHeartbeats 6400000 in
theorem meet_any (h : LW W X B m N A ga gc la lc nd lf inn fl bk s O ov cur) (hp : PX W A F s) (hNW : N ≤ W.heap.size) (id lev : Int) (low : Tx) (hl : low.Ok W) (hli : ∀ y,low.a = some y → 0 < low.s.length → ¬ LAv X B m ga la y.block) (hz1 : O.length ≤ 65536) (hz2 : cur.length ≤ 65536)
  (hcf : cfgOk nd lf inn fl bk) (er : Int) (her : er = s.metE (fun p => nchkE p nd lf inn fl bk) lev low.s ((O.flatten ++ cur).map (·.id)) id) :
  Calls Tryz.prog 120 #[.pointer (some ⟨B,0,none⟩),.int .i64 id,.int .i64 lev,low.v] W (MtP W X B m N A ga gc la nd lf inn fl bk s O ov cur id low er) := by
 obtain ⟨w1,hw1⟩ : ∃ x,x = W.alloc (.cells #[.int .i64 0,.slice none 0 0,.int .i64 0,.slice none 0 0,.slice none 0 0,.slice none 0 0] 110) := ⟨_,rfl⟩
 have b1 : Below W.heap.size W w1 := by rw [hw1]; exact (Below.refl _ _).alloc (Nat.le_refl _) _
 have g1 : w1.heap[W.heap.size]? = some (.cells z6 110 (0,0)) := by rw [hw1]; exact heap_alloc_new W _
 have HW1 : Hid (W.alloc (.cells #[.int .i64 0,.slice none 0 0,.int .i64 0,.slice none 0 0,.slice none 0 0,.slice none 0 0] 110) = w1) := hw1.symm
 have HRD := hide (sread_any (hp.below b1) id)
 have HH := hide h
 have HB1 := hide b1
 have HG1 := hide g1
 have HL := hide hl
 have HLI := hide hli
 have HNW := hide hNW
 have c0 : w1.cell? ⟨B,0,none⟩ = some (.pointer (some ⟨A,0,none⟩)) := by rw [cell_of_row _ _ _ _ _ _ (h.below b1).b]; rfl
 have HCF := hide hcf
 obtain ⟨oa,oc,os⟩ := low
 simp only [Tx.v] at her ⊢
 obtain ⟨lo,hlo⟩ : ∃ lo,os.length = lo := ⟨_,rfl⟩
 rw [hlo]
 have HLO := hide hlo
 clear hw1 b1 g1 h hl hli hp hNW hcf hlo
 by_cases hin : s.inn id
 ·have e0 : s.wordE id = 0 := if_pos hin
  have e1 : s.rd id = s.n id := if_pos hin
  rw [e0,e1] at HRD
  unfold AS.metE at her
  rw [if_pos hin] at her
  have HE := hide her
  have HIN := hide hin
  clear e0 e1 hin her
  go_enter Tryz.func120,Tryz.ntmps120
  go_upto_region 1 with fail
  rw [HW1.out]
  go_wp2_with fail
  refine HRD.out.mono ?_
  rintro e w2 ⟨n,rfl,hnp,hown,hb2⟩
  have HNP := hide hnp
  have HOWN := hide hown
  have hlvn : (s.n id).lv = n.lv := by rw [← hnp]; rfl
  have HE : Hid (er = if id ∈ (O.flatten ++ cur).map (·.id) then 112 else if n.lv ≠ lev then 111 else if nchkE (s.n id) nd lf inn fl bk ≠ 0 then nchkE (s.n id) nd lf inn fl bk else if notAb os (s.n id) then 112 else 0) := by rw [← hlvn]; exact HE.out
  have HN : Hid (∃ n' : Nd,n' = n) := ⟨n,rfl⟩
  obtain ⟨n0,hn0⟩ : ∃ n' : Nd,n' = n := ⟨n,rfl⟩
  have HN0 := hide hn0
  rw [← hn0] at HNP HOWN
  obtain ⟨nlv,⟨ha,hc,hs⟩,ri,⟨ka,kc,K⟩,⟨va,vc,V⟩,⟨ca,cc,C⟩⟩ := n
  have hnv : n0.v = .agg #[.int .i64 nlv,.slice ha hs.length hc,.int .i64 ri,.slice ka K.length kc,.slice va V.length vc,.slice ca C.length cc] := by rw [hn0]; rfl
  simp only [Nd.v,Tx.v,TL.v,IL.v]
  simp only at HE
  generalize hs.length = lh at *
  generalize K.length = lk at *
  generalize V.length = lw at *
  generalize C.length = lcc at *
  have HNV := hide hnv
  clear hnp hown hlvn HN hn0 hnv HN0
  obtain ⟨w3,hw3⟩ : ∃ w3,w3 = w2.alloc (.cells #[.int .i64 nlv,.slice ha lh hc,.int .i64 ri,.slice ka lk kc,.slice va lw vc,.slice ca lcc cc] 110) := ⟨_,rfl⟩
  have b3 : Below w2.heap.size w2 w3 := by rw [hw3]; exact (Below.refl _ _).alloc (Nat.le_refl _) _
  have G3 : Hid (w3.heap[w2.heap.size]? = some (.cells #[.int .i64 nlv,.slice ha lh hc,.int .i64 ri,.slice ka lk kc,.slice va lw vc,.slice ca lcc cc] 110 (0,0))) := by show _ = _; rw [hw3]; exact heap_alloc_new w2 _
  have B13 := hide (hb2.trans (b3.mono hb2.size))
  have B23 := hide b3
  have B03 := hide (HB1.out.trans (B13.out.mono HB1.out.size))
  have HW3 := hide hw3
  have hwz : Hid (W.heap.size < w2.heap.size) := by have := lt_of_block HG1.out; have := hb2.size; show _ < _; omega
  clear hb2 hw3 b3 c0
  go_upto_region 2 with fail
  rw [← HW3.out]
  have LW3 := hide (HH.out.below B03.out)
  have d6 : w3.cell? ⟨B,6,none⟩ = some (.map (some m)) := by rw [cell_of_row _ _ _ _ _ _ LW3.out.b]; rfl
  have LOOK := LW3.out.im.look (P := Tryz.prog) (t := 175) Tryz.underlying175 Tryz.underlying3 (zero_spot w3) id true
  rw [if_pos rfl] at LOOK
  by_cases hag : id ∈ (O.flatten ++ cur).map (·.id)
  ·have her := HE.out
   rw [if_pos hag] at her
   clear HE
   obtain ⟨x,hx,hxi⟩ := List.mem_map.1 hag
   have hat : imAt (spE (O.flatten ++ cur)) id = some x.v := imAt_some LW3.out.im.nd (List.mem_map.2 ⟨x,hx,by rw [← hxi]⟩)
   obtain ⟨fa,fl',fc,fw,fka,fkl,fkc,fca,fcl,fcc,hform⟩ := x.form
   rw [hat,hform] at LOOK
   simp only [Option.getD_some,Option.isSome_some] at LOOK
   generalize x.n.lv = xlv at *
   obtain ⟨w4,hw4⟩ : ∃ w4,w4 = w3.alloc (.cells #[.int .i64 xlv,.slice fa fl' fc,.int .i64 fw,.slice fka fkl fkc,.slice fca fcl fcc] 219) := ⟨_,rfl⟩
   have b4 : Below w3.heap.size w3 w4 := by rw [hw4]; exact (Below.refl _ _).alloc (Nat.le_refl _) _
   have BX := hide (B03.out.trans (b4.mono B03.out.size))
   have GZ : Hid (w4.heap[W.heap.size]? = some (.cells z6 110 (0,0))) := (b4.block _ (by have := hwz.out; have := B23.out.size; omega)).trans ((B13.out.block _ (lt_of_block HG1.out)).trans HG1.out)
   have HW4 := hide hw4
   have HER := hide her
   obtain ⟨y0,y1,y2,y3,y4,y5⟩ := Six.of GZ.out
   have F5 := fun j => frozen_of GZ.out j
   clear hw4 b4 her hat hform hx hxi hag
   go_upto_region 5 with fail
   rw [← HW4.out]
   go_wp2_with fail
   (try simp only [Exit.inBlock,Exit.then])
   have G6 := six_block GZ.out (.int .i64 0) (.slice none 0 0) (.int .i64 0) (.slice none 0 0) (.slice none 0 0) (.slice none 0 0)
   have U6 : Upd (fun b => b = W.heap.size) w4 (six6 w4 W.heap.size (.int .i64 0) (.slice none 0 0) (.int .i64 0) (.slice none 0 0) (.slice none 0 0) (.slice none 0 0)) := six_upd _ _ _ _ _ _ _ _ _ rfl
   obtain ⟨q0,q1,q2,q3,q4,q5⟩ := Six.of G6
   show bodyPost _ _ _ _ _ (six6 w4 W.heap.size (.int .i64 0) (.slice none 0 0) (.int .i64 0) (.slice none 0 0) (.slice none 0 0) (.slice none 0 0))
   generalize six6 w4 W.heap.size (.int .i64 0) (.slice none 0 0) (.int .i64 0) (.slice none 0 0) (.slice none 0 0) (.slice none 0 0) = w9 at *
   exact bodyPost_ret (v := .tuple #[.agg #[.int .i64 0,.slice none 0 0,.int .i64 0,.slice none 0 0,.slice none 0 0,.slice none 0 0],.int .i64 112]) (by simp [results,Tryz.results120,go_sem,q0,q1,q2,q3,q4,q5]) rfl ⟨Nd.zero,by rw [HER.out]; rfl,(Upd.of_below BX.out (LMut B m ga la)).then U6 (fun k hk e => absurd hk (by rw [show k = W.heap.size from e]; omega)),fun e => absurd (HER.out.symm.trans e) (by decide)⟩
  ·have her := HE.out
   rw [if_neg hag] at her
   have HE2 := hide her
   clear HE her
   have hat : imAt (spE (O.flatten ++ cur)) id = none := imAt_none (by rw [spE_ids]; exact hag)
   rw [hat] at LOOK
   simp only [Option.getD_none,Option.isSome_none] at LOOK
   obtain ⟨w4,hw4⟩ : ∃ w4,w4 = w3.alloc (.cells #[.int .i64 0,.slice none 0 0,.int .i64 0,.slice none 0 0,.slice none 0 0] 219) := ⟨_,rfl⟩
   have b4 : Below w3.heap.size w3 w4 := by rw [hw4]; exact (Below.refl _ _).alloc (Nat.le_refl _) _
   have B04 := hide (B03.out.trans (b4.mono B03.out.size))
   have B34 := hide b4
   have GZ4 : Hid (w4.heap[W.heap.size]? = some (.cells z6 110 (0,0))) := (b4.block _ (by have := hwz.out; have := B23.out.size; omega)).trans ((B13.out.block _ (lt_of_block HG1.out)).trans HG1.out)
   have GN4 : Hid (w4.heap[w2.heap.size]? = some (.cells #[.int .i64 nlv,.slice ha lh hc,.int .i64 ri,.slice ka lk kc,.slice va lw vc,.slice ca lcc cc] 110 (0,0))) := (b4.block _ (lt_of_block G3.out)).trans G3.out
   have HW4 := hide hw4
   have HAG := hide hag
   clear hw4 b4 hat hag
   go_upto_region 5 with fail
   rw [← HW4.out]
   clear LOOK d6
   obtain ⟨n0',n1',n2',n3',n4',n5'⟩ := Six.of GN4.out
   by_cases hlv : nlv ≠ lev
   ·have her := HE2.out
    rw [if_pos hlv] at her
    clear HE2
    have HER := hide her
    have GZ := GZ4
    have BX := B04
    obtain ⟨y0,y1,y2,y3,y4,y5⟩ := Six.of GZ.out
    have F5 := fun j => frozen_of GZ.out j
    clear her
    go_wp2_with fail
    (try simp only [Exit.inBlock,Exit.then])
    have G6 := six_block GZ.out (.int .i64 0) (.slice none 0 0) (.int .i64 0) (.slice none 0 0) (.slice none 0 0) (.slice none 0 0)
    have U6 : Upd (fun b => b = W.heap.size) w4 (six6 w4 W.heap.size (.int .i64 0) (.slice none 0 0) (.int .i64 0) (.slice none 0 0) (.slice none 0 0) (.slice none 0 0)) := six_upd _ _ _ _ _ _ _ _ _ rfl
    obtain ⟨q0,q1,q2,q3,q4,q5⟩ := Six.of G6
    show bodyPost _ _ _ _ _ (six6 w4 W.heap.size (.int .i64 0) (.slice none 0 0) (.int .i64 0) (.slice none 0 0) (.slice none 0 0) (.slice none 0 0))
    generalize six6 w4 W.heap.size (.int .i64 0) (.slice none 0 0) (.int .i64 0) (.slice none 0 0) (.slice none 0 0) (.slice none 0 0) = w9 at *
    exact bodyPost_ret (v := .tuple #[.agg #[.int .i64 0,.slice none 0 0,.int .i64 0,.slice none 0 0,.slice none 0 0,.slice none 0 0],.int .i64 111]) (by simp [results,Tryz.results120,go_sem,q0,q1,q2,q3,q4,q5]) rfl ⟨Nd.zero,by rw [HER.out]; rfl,(Upd.of_below BX.out (LMut B m ga la)).then U6 (fun k hk e => absurd hk (by rw [show k = W.heap.size from e]; omega)),fun e => absurd (HER.out.symm.trans e) (by decide)⟩
   ·have her := HE2.out
    rw [if_neg hlv] at her
    obtain rfl : nlv = lev := Decidable.not_not.1 hlv
    clear hlv
    have LW4 := hide (HH.out.below B04.out)
    have m1 : w4.cell? ⟨B,1,none⟩ = some (.int .i64 nd) := by rw [cell_of_row _ _ _ _ _ _ LW4.out.b]; rfl
    have m2 : w4.cell? ⟨B,2,none⟩ = some (.int .i64 lf) := by rw [cell_of_row _ _ _ _ _ _ LW4.out.b]; rfl
    have m3 : w4.cell? ⟨B,3,none⟩ = some (.int .i64 inn) := by rw [cell_of_row _ _ _ _ _ _ LW4.out.b]; rfl
    have m4 : w4.cell? ⟨B,4,none⟩ = some (.int .i64 fl) := by rw [cell_of_row _ _ _ _ _ _ LW4.out.b]; rfl
    have m5 : w4.cell? ⟨B,5,none⟩ = some (.int .i64 bk) := by rw [cell_of_row _ _ _ _ _ _ LW4.out.b]; rfl
    have OW4 : Hid (n0.Own w4 w1.heap.size) := HOWN.out.below (B23.out.trans (B34.out.mono B23.out.size))
    have HCK : Hid (Calls Tryz.prog 145 #[.agg #[.int .i64 nlv,.slice ha lh hc,.int .i64 ri,.slice ka lk kc,.slice va lw vc,.slice ca lcc cc],.agg #[.int .i64 nd,.int .i64 lf,.int .i64 inn,.int .i64 fl,.int .i64 bk]] w4.drew fun e w' => e = .returned (.int .i64 (nchkE (s.n id) nd lf inn fl bk)) ∧ Below w4.drew.heap.size w4.drew w') := by
     show Calls _ _ _ _ _
     have := ncheck_any n0 nd lf inn fl bk w4.drew (OW4.out.ok.below (below_drew (Below.refl _ _)))
     rw [HNV.out,HNP.out] at this
     exact this
    obtain ⟨ce,hce⟩ : ∃ ce,ce = nchkE (s.n id) nd lf inn fl bk := ⟨_,rfl⟩
    rw [← hce] at HCK her
    have HCE := hide hce
    have HE3 := hide her
    clear hce her HE2
    go_wp2_with fail
    go_region_held3 (fun X => (X.cell? ⟨w2.heap.size,0,none⟩ = some (.int .i64 nlv) ∧ X.cell? ⟨w2.heap.size,1,none⟩ = some (.slice ha lh hc) ∧ X.cell? ⟨w2.heap.size,2,none⟩ = some (.int .i64 ri) ∧ X.cell? ⟨w2.heap.size,3,none⟩ = some (.slice ka lk kc) ∧ X.cell? ⟨w2.heap.size,4,none⟩ = some (.slice va lw vc) ∧ X.cell? ⟨w2.heap.size,5,none⟩ = some (.slice ca lcc cc)) ∧ X.cell? ⟨B,1,none⟩ = some (.int .i64 nd) ∧ X.cell? ⟨B,2,none⟩ = some (.int .i64 lf) ∧ X.cell? ⟨B,3,none⟩ = some (.int .i64 inn) ∧ X.cell? ⟨B,4,none⟩ = some (.int .i64 fl) ∧ X.cell? ⟨B,5,none⟩ = some (.int .i64 bk)) (go_keep) (first
     | (go_at_call 145; refine HCK.out.mono ?_; rintro e w5 ⟨rfl,hb5⟩; have B45 : Hid (Below w4.heap.size w4 w5) := ⟨hb5.os,hb5.tape,hb5.output,hb5.size,hb5.block⟩; have GN5 : Hid (w5.heap[w2.heap.size]? = some (.cells #[.int .i64 nlv,.slice ha lh hc,.int .i64 ri,.slice ka lk kc,.slice va lw vc,.slice ca lcc cc] 110 (0,0))) := (B45.out.block _ (lt_of_block GN4.out)).trans GN4.out; obtain ⟨p0,p1,p2,p3,p4,p5⟩ := Six.of GN5.out; have LW5 := hide (LW4.out.below B45.out); have k1 : w5.cell? ⟨B,1,none⟩ = some (.int .i64 nd) := (by rw [cell_of_row _ _ _ _ _ _ LW5.out.b]; rfl); have k2 : w5.cell? ⟨B,2,none⟩ = some (.int .i64 lf) := (by rw [cell_of_row _ _ _ _ _ _ LW5.out.b]; rfl); have k3 : w5.cell? ⟨B,3,none⟩ = some (.int .i64 inn) := (by rw [cell_of_row _ _ _ _ _ _ LW5.out.b]; rfl); have k4 : w5.cell? ⟨B,4,none⟩ = some (.int .i64 fl) := (by rw [cell_of_row _ _ _ _ _ _ LW5.out.b]; rfl); have k5 : w5.cell? ⟨B,5,none⟩ = some (.int .i64 bk) := (by rw [cell_of_row _ _ _ _ _ _ LW5.out.b]; rfl); clear hb5)
     | fail)
    clear n0' n1' n2' n3' n4' n5' m1 m2 m3 m4 m5 k1 k2 k3 k4 k5 HCK
    have B05 := hide (B04.out.trans (B45.out.mono B04.out.size))
    have GZ5 : Hid (w5.heap[W.heap.size]? = some (.cells z6 110 (0,0))) := (B45.out.block _ (lt_of_block GZ4.out)).trans GZ4.out
    by_cases hc0 : ce ≠ 0
    ·have her := HE3.out
     rw [if_pos hc0] at her
     clear HE3
     have HER := hide her
     have GZ := GZ5
     have BX := B05
     obtain ⟨y0,y1,y2,y3,y4,y5⟩ := Six.of GZ.out
     have F5 := fun j => frozen_of GZ.out j
     clear her
     go_wp2_with fail
     (try simp only [Exit.inBlock,Exit.then])
     have G6 := six_block GZ.out (.int .i64 0) (.slice none 0 0) (.int .i64 0) (.slice none 0 0) (.slice none 0 0) (.slice none 0 0)
     have U6 : Upd (fun b => b = W.heap.size) w5 (six6 w5 W.heap.size (.int .i64 0) (.slice none 0 0) (.int .i64 0) (.slice none 0 0) (.slice none 0 0) (.slice none 0 0)) := six_upd _ _ _ _ _ _ _ _ _ rfl
     obtain ⟨q0,q1,q2,q3,q4,q5⟩ := Six.of G6
     show bodyPost _ _ _ _ _ (six6 w5 W.heap.size (.int .i64 0) (.slice none 0 0) (.int .i64 0) (.slice none 0 0) (.slice none 0 0) (.slice none 0 0))
     generalize six6 w5 W.heap.size (.int .i64 0) (.slice none 0 0) (.int .i64 0) (.slice none 0 0) (.slice none 0 0) (.slice none 0 0) = w9 at *
     exact bodyPost_ret (v := .tuple #[.agg #[.int .i64 0,.slice none 0 0,.int .i64 0,.slice none 0 0,.slice none 0 0,.slice none 0 0],.int .i64 ce]) (by simp [results,Tryz.results120,go_sem,q0,q1,q2,q3,q4,q5]) rfl ⟨Nd.zero,by rw [HER.out]; rfl,(Upd.of_below BX.out (LMut B m ga la)).then U6 (fun k hk e => absurd hk (by rw [show k = W.heap.size from e]; omega)),fun e => absurd (HER.out.symm.trans e) hc0⟩
    ·have her := HE3.out
     rw [if_neg hc0] at her
     clear HE3
     obtain rfl : ce = 0 := Decidable.not_not.1 hc0
     clear hc0
     have HKY : Hid (KyP (s.n id).hi (s.n id).ks) := by
      have := HCE.out
      unfold nchkE at this
      rw [if_pos HCF.out] at this
      by_cases hh : HdP (s.n id).lv (s.n id).hi.length (s.n id).ri nd ∧ KyP (s.n id).hi (s.n id).ks ∧ BdP (s.n id) nd lf inn
      ·exact hh.2.1
      ·rw [if_neg hh] at this; omega
     have OW5 : Hid (n0.Own w5 w1.heap.size) := OW4.out.below B45.out
     have LO5 : Hid ((⟨oa,oc,os⟩ : Tx).Ok w5) := HL.out.below B05.out
     have HLS : Hid (Calls Tryz.prog 146 #[.agg #[.int .i64 nlv,.slice ha lh hc,.int .i64 ri,.slice ka lk kc,.slice va lw vc,.slice ca lcc cc],.slice oa lo oc] w5 fun e w' => e = .returned (.bool (decide (liesP os (s.n id)))) ∧ Below w5.heap.size w5 w') := by
      show Calls _ _ _ _ _
      have := lies_any n0 ⟨oa,oc,os⟩ w5 OW5.out.ok LO5.out
      simp only [Tx.v] at this
      rw [HNV.out,HNP.out,HLO.out] at this
      exact this
     have hle : liesP os (s.n id) ↔ ¬ notAb os (s.n id) := lies_iff HKY.out
     by_cases hna : notAb os (s.n id)
     ·rw [if_pos hna] at her
      rw [decide_eq_false (fun e => hle.1 e hna)] at HLS
      have HER := hide her
      clear her hle hna
      go_wp2_with fail
      refine HLS.out.mono ?_
      rintro e w6 ⟨rfl,hb6⟩
      have GZ : Hid (w6.heap[W.heap.size]? = some (.cells z6 110 (0,0))) := (hb6.block _ (lt_of_block GZ5.out)).trans GZ5.out
      have BX := hide (B05.out.trans (hb6.mono B05.out.size))
      obtain ⟨y0,y1,y2,y3,y4,y5⟩ := Six.of GZ.out
      have F5 := fun j => frozen_of GZ.out j
      clear hb6
      go_wp2_with fail
      (try simp only [Exit.inBlock,Exit.then])
      have G6 := six_block GZ.out (.int .i64 0) (.slice none 0 0) (.int .i64 0) (.slice none 0 0) (.slice none 0 0) (.slice none 0 0)
      have U6 : Upd (fun b => b = W.heap.size) w6 (six6 w6 W.heap.size (.int .i64 0) (.slice none 0 0) (.int .i64 0) (.slice none 0 0) (.slice none 0 0) (.slice none 0 0)) := six_upd _ _ _ _ _ _ _ _ _ rfl
      obtain ⟨q0,q1,q2,q3,q4,q5⟩ := Six.of G6
      show bodyPost _ _ _ _ _ (six6 w6 W.heap.size (.int .i64 0) (.slice none 0 0) (.int .i64 0) (.slice none 0 0) (.slice none 0 0) (.slice none 0 0))
      generalize six6 w6 W.heap.size (.int .i64 0) (.slice none 0 0) (.int .i64 0) (.slice none 0 0) (.slice none 0 0) (.slice none 0 0) = w9 at *
      exact bodyPost_ret (v := .tuple #[.agg #[.int .i64 0,.slice none 0 0,.int .i64 0,.slice none 0 0,.slice none 0 0,.slice none 0 0],.int .i64 112]) (by simp [results,Tryz.results120,go_sem,q0,q1,q2,q3,q4,q5]) rfl ⟨Nd.zero,by rw [HER.out]; rfl,(Upd.of_below BX.out (LMut B m ga la)).then U6 (fun k hk e => absurd hk (by rw [show k = W.heap.size from e]; omega)),fun e => absurd (HER.out.symm.trans e) (by decide)⟩
     ·rw [if_neg hna] at her
      rw [decide_eq_true (hle.2 hna)] at HLS
      have HER := hide her
      clear her hle hna
      go_wp2_with fail
      refine HLS.out.mono ?_
      rintro e w6 ⟨rfl,hb6⟩
      have B56 := hide hb6
      have GZ6 : Hid (w6.heap[W.heap.size]? = some (.cells z6 110 (0,0))) := (hb6.block _ (lt_of_block GZ5.out)).trans GZ5.out
      have GN6 : Hid (w6.heap[w2.heap.size]? = some (.cells #[.int .i64 nlv,.slice ha lh hc,.int .i64 ri,.slice ka lk kc,.slice va lw vc,.slice ca lcc cc] 110 (0,0))) := (hb6.block _ (lt_of_block GN5.out)).trans GN5.out
      have B06 := hide (B05.out.trans (hb6.mono B05.out.size))
      have hsz6 : W.heap.size < w6.heap.size := lt_of_block GZ6.out
      have LW6 : Hid (LW w6 (fun k => X k ∨ k = W.heap.size) B m N A ga gc la lc nd lf inn fl bk s O ov cur) := HH.out.more B06.out (fun k hk => hk.imp (fun e => e) (fun e => by omega)) (fun k hk => (HH.out.mut_lt k hk).2)
      have hmut : Hid (∀ k,LMut B m ga la k → k < W.heap.size) := fun k hk => (HH.out.mut_lt k hk).2
      have X6 : Hid ((⟨id,⟨oa,oc,os⟩,n0⟩ : Sp).Ok w6 (LAv (fun k => X k ∨ k = W.heap.size) B m ga la) s) := ⟨(OW5.out.below hb6).ok,LO5.out.below hb6,OW5.out.in_.mono (fun k hk e => by
       have h2 : W.heap.size < w1.heap.size := lt_of_block HG1.out
       have h3 := hk.1
       rcases e with e | e | e
       ·have := hmut.out k e; omega
       ·have := (HH.out.x k e).1; omega
       ·omega),fun y e l e2 => by
       have h1 := row_lt HL.out.r y e l
       rcases e2 with e2 | e2 | e2
       ·exact HLI.out y e l (.inl e2)
       ·exact HLI.out y e l (.inr e2)
       ·omega,HNP.out⟩
      have HKP := hide (keep_any LW6.out id ⟨oa,oc,os⟩ n0 X6.out HAG.out (Nat.le_trans HNW.out B06.out.size) hz1 hz2)
      simp only [Tx.v] at HKP
      rw [HNV.out,HLO.out] at HKP
      obtain ⟨r0,r1,r2,r3,r4,r5⟩ := Six.of GN6.out
      clear hb6 hsz6 p0 p1 p2 p3 p4 p5
      go_wp2_with fail
      refine HKP.out.mono ?_
      rintro e w7 ⟨rfl,hu7,la',lc',hlw7⟩
      have hwz' := hwz.out
      have h26 : w2.heap.size < w6.heap.size := lt_of_block GN6.out
      have GN7 : Hid (w7.heap[w2.heap.size]? = some (.cells #[.int .i64 nlv,.slice ha lh hc,.int .i64 ri,.slice ka lk kc,.slice va lw vc,.slice ca lcc cc] 110 (0,0))) := hu7.heap GN6.out (fun e => by have := hmut.out _ e; omega)
      have GZ7 : Hid (w7.heap[W.heap.size]? = some (.cells z6 110 (0,0))) := hu7.heap GZ6.out (fun e => by have := hmut.out _ e; omega)
      have U7 := hide hu7
      have LW7 := hide hlw7
      obtain ⟨y0,y1,y2,y3,y4,y5⟩ := Six.of GZ7.out
      have F5 := fun j => frozen_of GZ7.out j
      obtain ⟨s0,s1,s2,s3,s4,s5⟩ := Six.of GN7.out
      clear hu7 hlw7 hwz' h26 r0 r1 r2 r3 r4 r5
      go_wp2_with fail
      (try simp only [Exit.inBlock,Exit.then])
      have G6 := six_block GZ7.out (.int .i64 nlv) (.slice ha lh hc) (.int .i64 ri) (.slice ka lk kc) (.slice va lw vc) (.slice ca lcc cc)
      have U6 : Upd (fun b => b = W.heap.size) w7 (six6 w7 W.heap.size (.int .i64 nlv) (.slice ha lh hc) (.int .i64 ri) (.slice ka lk kc) (.slice va lw vc) (.slice ca lcc cc)) := six_upd _ _ _ _ _ _ _ _ _ rfl
      obtain ⟨q0,q1,q2,q3,q4,q5⟩ := Six.of G6
      show bodyPost _ _ _ _ _ (six6 w7 W.heap.size (.int .i64 nlv) (.slice ha lh hc) (.int .i64 ri) (.slice ka lk kc) (.slice va lw vc) (.slice ca lcc cc))
      generalize six6 w7 W.heap.size (.int .i64 nlv) (.slice ha lh hc) (.int .i64 ri) (.slice ka lk kc) (.slice va lw vc) (.slice ca lcc cc) = w9 at *
      have LW9 := (LW7.out.other (U6.mono (fun k _ e => Or.inr e))).more (Below.refl _ _) (X' := X) (fun k hk => .inl (.inl hk)) (fun k hk => ((LW7.out.other (U6.mono (fun k _ e => Or.inr e))).mut_lt k hk).2)
      exact bodyPost_ret (v := .tuple #[.agg #[.int .i64 nlv,.slice ha lh hc,.int .i64 ri,.slice ka lk kc,.slice va lw vc,.slice ca lcc cc],.int .i64 0]) (by simp [results,Tryz.results120,go_sem,q0,q1,q2,q3,q4,q5]) rfl ⟨n0,by rw [HER.out,HNV.out],((Upd.of_below B06.out (LMut B m ga la)).then U7.out (fun _ _ e => e)).then U6 (fun k hk e => absurd hk (by rw [show k = W.heap.size from e]; omega)),fun _ => ⟨HNP.out,la',lc',LW9⟩⟩
 ·have e0 : s.wordE id = 101 := if_neg hin
  have e1 : s.rd id = NP.zero := if_neg hin
  rw [e0,e1] at HRD
  unfold AS.metE at her
  rw [if_neg hin] at her
  have HER := hide her
  clear e0 e1 hin her
  go_enter Tryz.func120,Tryz.ntmps120
  go_upto_region 1 with fail
  rw [HW1.out]
  go_wp2_with fail
  refine HRD.out.mono ?_
  rintro e w2 ⟨⟨nlv,⟨ha,hc,hs⟩,ri,⟨ka,kc,K⟩,⟨va,vc,V⟩,⟨ca,cc,C⟩⟩,rfl,hnp,hown,hb2⟩
  simp only [Nd.v,Tx.v,TL.v,IL.v]
  generalize hs.length = lh at *
  generalize K.length = lk at *
  generalize V.length = lw at *
  generalize C.length = lcc at *
  clear hnp hown
  obtain ⟨w3,hw3⟩ : ∃ w3,w3 = w2.alloc (.cells #[.int .i64 nlv,.slice ha lh hc,.int .i64 ri,.slice ka lk kc,.slice va lw vc,.slice ca lcc cc] 110) := ⟨_,rfl⟩
  have b3 : Below w2.heap.size w2 w3 := by rw [hw3]; exact (Below.refl _ _).alloc (Nat.le_refl _) _
  have b13 := hb2.trans (b3.mono hb2.size)
  have BX := hide (HB1.out.trans (b13.mono HB1.out.size))
  have GZ : Hid (w3.heap[W.heap.size]? = some (.cells z6 110 (0,0))) := (b13.block _ (lt_of_block HG1.out)).trans HG1.out
  have HW3 := hide hw3
  obtain ⟨y0,y1,y2,y3,y4,y5⟩ := Six.of GZ.out
  have F5 := fun j => frozen_of GZ.out j
  clear hb2 hw3 b3 b13 c0
  go_upto_region 2 with fail
  rw [← HW3.out]
  go_wp2_with fail
  (try simp only [Exit.inBlock,Exit.then])
  have G6 := six_block GZ.out (.int .i64 0) (.slice none 0 0) (.int .i64 0) (.slice none 0 0) (.slice none 0 0) (.slice none 0 0)
  have U6 : Upd (fun b => b = W.heap.size) w3 (six6 w3 W.heap.size (.int .i64 0) (.slice none 0 0) (.int .i64 0) (.slice none 0 0) (.slice none 0 0) (.slice none 0 0)) := six_upd _ _ _ _ _ _ _ _ _ rfl
  obtain ⟨q0,q1,q2,q3,q4,q5⟩ := Six.of G6
  show bodyPost _ _ _ _ _ (six6 w3 W.heap.size (.int .i64 0) (.slice none 0 0) (.int .i64 0) (.slice none 0 0) (.slice none 0 0) (.slice none 0 0))
  generalize six6 w3 W.heap.size (.int .i64 0) (.slice none 0 0) (.int .i64 0) (.slice none 0 0) (.slice none 0 0) (.slice none 0 0) = w9 at *
  exact bodyPost_ret (v := .tuple #[.agg #[.int .i64 0,.slice none 0 0,.int .i64 0,.slice none 0 0,.slice none 0 0,.slice none 0 0],.int .i64 101]) (by simp [results,Tryz.results120,go_sem,q0,q1,q2,q3,q4,q5]) rfl ⟨Nd.zero,by rw [HER.out]; rfl,(Upd.of_below BX.out (LMut B m ga la)).then U6 (fun k hk e => absurd hk (by rw [show k = W.heap.size from e]; omega)),fun e => absurd (HER.out.symm.trans e) (by decide)⟩
end
end Go.Proofs.YtljnapejgjffjaaGreat
