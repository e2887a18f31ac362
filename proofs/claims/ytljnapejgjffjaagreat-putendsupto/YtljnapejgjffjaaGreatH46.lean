/- Texts of one's own. -/
import Derived.Test.YtljnapejgjffjaaGreatH45
namespace Go.Proofs.YtljnapejgjffjaaGreat
open Go.RowKit
set_option maxRecDepth 100000
theorem stray_none {s : AS} {up down : Chn} (h : ∀ i (hi : i < up.length),s.kidsOk down up[i]) : s.stray up down = none := by
 unfold AS.stray
 rw [List.find?_eq_none.2]
 ·rfl
 ·intro x hx
  obtain ⟨i,hi,rfl⟩ := List.getElem_of_mem hx
  simp [h i hi]
theorem stray_at {s : AS} {up down : Chn} {i : Nat} (hi : i < up.length) (h : ∀ j (hj : j < up.length),j < i → s.kidsOk down up[j]) (hn : ¬ s.kidsOk down up[i]) : s.stray up down = some up[i].1 := by
 unfold AS.stray
 have : up.find? (fun x => !decide (s.kidsOk down x)) = some up[i] := by
  rw [List.find?_eq_some_iff_getElem]
  refine ⟨by simp [hn],i,hi,rfl,fun j hj => ?_⟩
  simp [h j (by omega) hj]
 rw [this]
 rfl
theorem map_nodup_inj {f : Sp → Int} (l : List Sp) (hn : (l.map f).Nodup) {y z : Sp} (hy : y ∈ l) (hz : z ∈ l) (he : f y = f z) : y = z := by
 induction l with
 | nil => cases hy
 | cons a r ih =>
  rw [List.map_cons,List.nodup_cons] at hn
  rcases List.mem_cons.1 hy with h1 | h1
  ·rcases List.mem_cons.1 hz with h2 | h2
   ·rw [h1,h2]
   ·rw [h1] at he
    exact absurd (List.mem_map.2 ⟨z,h2,he.symm⟩) hn.1
  ·rcases List.mem_cons.1 hz with h2 | h2
   ·rw [h2] at he
    exact absurd (List.mem_map.2 ⟨y,h1,he⟩) hn.1
   ·exact ih hn.2 h1 h2
theorem Sp.form3 (x : Sp) : ∃ ka kl kc ca cl cc,x.v = .agg #[.int .i64 x.n.lv,.slice x.low.a x.low.s.length x.low.c,.int .i64 (x.w : Nat),.slice ka kl kc,.slice ca cl cc] := by
 unfold Sp.v Sp.kv Sp.cv
 by_cases h : 0 < x.n.lv
 ·rw [if_pos h,if_pos h]; exact ⟨_,_,_,_,_,_,rfl⟩
 ·rw [if_neg h,if_neg h]; exact ⟨_,_,_,_,_,_,rfl⟩
section
variable {W : World} {X : Nat → Prop} {B m N A : Nat} {ga : Option Addr} {gc : Nat} {nd lf inn fl bk : Int} {s : AS} {O : List (List Sp)} {ov : List IL} {dn : List Sp} {lev : Int}
theorem LQ.same (h : LQ W X B m N A ga gc nd lf inn fl bk s O ov) {y z : Sp} (hy : y ∈ O.flatten) (hz : z ∈ O.flatten) (he : y.id = z.id) : y = z := by
 exact map_nodup_inj _ h.uniq hy hz he
theorem LQ.kid_no (h : LQ W X B m N A ga gc nd lf inn fl bk s O ov) (hD : ∀ x ∈ dn,x ∈ O.flatten) {kid : Int} (hi : imAt (spE O.flatten) kid = none) (want : List Int) : (kid,want) ∉ dn.map Sp.q := by
 intro hm
 obtain ⟨z,hz,e⟩ := List.mem_map.1 hm
 have := h.at (hD z hz)
 simp only [Sp.q,Prod.mk.injEq] at e
 rw [e.1,hi] at this
 cases this
theorem LQ.kid_yes (h : LQ W X B m N A ga gc nd lf inn fl bk s O ov) (hD : ∀ x ∈ dn,x ∈ O.flatten) (hL : ∀ x ∈ O.flatten,x.n.lv = lev ↔ x ∈ dn) {y : Sp} (hy : y ∈ O.flatten) (want : List Int) : (y.id,want) ∈ dn.map Sp.q ↔ y.n.lv = lev ∧ y.low.s = want := by
 constructor
 ·intro hm
  obtain ⟨z,hz,e⟩ := List.mem_map.1 hm
  simp only [Sp.q,Prod.mk.injEq] at e
  obtain rfl := h.same (hD z hz) hy e.1
  exact ⟨(hL z hy).2 hz,e.2⟩
 ·rintro ⟨h1,h2⟩
  exact List.mem_map.2 ⟨y,(hL y hy).1 h1,by simp [Sp.q,h2]⟩
theorem LQ.find (O : List (List Sp)) (kid : Int) : imAt (spE O.flatten) kid = none ∨ ∃ y ∈ O.flatten,y.id = kid ∧ imAt (spE O.flatten) kid = some y.v := by
 cases hc : imAt (spE O.flatten) kid with
 | none => exact .inl rfl
 | some v =>
  obtain ⟨y,hy,e⟩ := List.mem_map.1 (imAt_mem hc)
  simp only [Prod.mk.injEq] at e
  exact .inr ⟨y,hy,e.1,by rw [e.2]⟩
set_option maxHeartbeats 400000 in
theorem stray_one (h : LQ W X B m N A ga gc nd lf inn fl bk s O ov) (hk : O.length = 1) (lev : Int) : Calls Tryz.prog 121 #[.pointer (some ⟨B,0,none⟩),.int .i64 lev] W fun e w' => e = .returned (.int .i64 0) ∧ Below W.heap.size W w' := by
 obtain ⟨_,_,c7⟩ := h.cells
 rw [hk] at c7
 clear h
 go_enter Tryz.func121,Tryz.ntmps121
 go_wp2_with fail
 go_ret
 exact ⟨rfl,Below.refl _ _⟩
def KidsTo (s : AS) (down : Chn) (x : Int × List Int) (q : Nat) : Prop := ∀ k,k < q → k < (s.n x.1).cs.length → s.kidAt x k ∈ down
set_option maxHeartbeats 3200000 in
theorem stray_any (h : LQ W X B m N A ga gc nd lf inn fl bk s O ov) (k : Nat) (hk : O.length = k + 2) (hzk : k ≤ 65536) (lev : Int) (up dn : List Sp) (hup : O[k]? = some up) (hD : ∀ x ∈ dn,x ∈ O.flatten) (hL : ∀ x ∈ O.flatten,x.n.lv = lev ↔ x ∈ dn) (hU : ∀ x ∈ up,0 < x.n.lv ∧ x.n.cs.s.length ≤ x.n.ks.L.length + 1) (hz : up.length ≤ 65536) :
  Calls Tryz.prog 121 #[.pointer (some ⟨B,0,none⟩),.int .i64 lev] W fun e w' => e = .returned (.int .i64 ((s.stray (up.map Sp.q) (dn.map Sp.q)).getD 0)) ∧ Below W.heap.size W w' := by
 obtain ⟨_,c6,c7⟩ := h.cells
 obtain ⟨g,rfl,hk',hcell,hok,hos⟩ := h.row_at (i := k) (by omega)
 have hOk : O[k]'(by omega) = up := by rw [List.getElem?_eq_getElem (by omega)] at hup; exact Option.some.inj hup
 rw [hOk] at hos
 have hUp : ∀ x ∈ up,x ∈ O.flatten := fun x hx => List.mem_flatten.2 ⟨O[k]'(by omega),List.getElem_mem _,by rw [hOk]; exact hx⟩
 have HH : Hid (∀ Y,Below W.heap.size W Y → LQ Y X B m N A (some ⟨g,0,none⟩) gc nd lf inn fl bk s O ov) := fun Y hb => h.below hb
 have HOK : Hid (∀ Y,Below W.heap.size W Y → ov[k].Ok Y) := fun Y hb => hok.below hb
 have HSS := hide hos
 have HD := hide hD
 have HL := hide hL
 have HU := hide hU
 have HUP := hide hUp
 obtain ⟨R,hR⟩ : ∃ R,R = (s.stray (up.map Sp.q) (dn.map Sp.q)).getD 0 := ⟨_,rfl⟩
 rw [← hR]
 have HR := hide hR
 generalize ov[k] = v at *
 obtain ⟨va,vc,vs⟩ := v
 simp only [IL.v] at hcell
 simp only at HSS
 have hvl : vs.length = up.length := by rw [HSS.out,List.length_map]
 obtain ⟨ul,hul⟩ : ∃ ul,up.length = ul := ⟨_,rfl⟩
 rw [hvl,hul] at hcell
 rw [hul] at hz
 have HUL := hide hul
 have HVL := hide hvl
 obtain ⟨q,hq⟩ : ∃ q,O.length = q := ⟨_,rfl⟩
 rw [hq] at c7 hk
 have x1 : IntKind.i64.wrap ((q : Int) - 2) = (k : Int) := by unfold IntKind.wrap; simp [IntKind.bits,IntKind.signed]; omega
 have x2 : (k : Int) < (q : Int) := by omega
 have x3 : (0 : Int) ≤ (k : Int) := by omega
 have x4 : k < q := by omega
 have x5 : ¬ (q : Int) = 1 := by omega
 have x6 : ((q : Int) == 1) = false := by rw [beq_eq_false_iff_ne]; exact x5
 clear h hok hos hD hL hU hUp hOk hup hR hul hvl hq hk
 go_enter Tryz.func121,Tryz.ntmps121
 go_wp2_with fail
 go_quiet (fail)
 go_wp2_with fail
 go_loopw [31] (fun q31 wr => ∃ i : Nat,i ≤ ul ∧ q31 = .int .i64 (i : Int) ∧ Hid (∀ j (hj : j < up.length),j < i → s.kidsOk (dn.map Sp.q) up[j].q) ∧ Hid (Below W.heap.size W wr)) (fun q31 _ => ul - (intOf q31).toNat)
 case atStart => exact ⟨0,Nat.zero_le _,rfl,fun j _ hj => absurd hj (Nat.not_lt_zero j),below_drewN (Below.refl _ _) _⟩
 case round =>
  obtain ⟨i,hi,rfl,HA,HB⟩ := hrel
  rename World => wr
  by_cases hlt : i < ul
  ·have j1 : (i : Int) < (ul : Int) := by omega
   have hiu : i < up.length := by rw [HUL.out]; exact hlt
   obtain ⟨b,o,hva,hvc⟩ := (HOK.out wr HB.out).r i (by simp only; rw [HVL.out]; exact hiu)
   simp only at hva hvc
   subst hva
   have hgi : vs.getD i 0 = up[i].id := by rw [HSS.out]; simp [hiu]
   rw [hgi] at hvc
   have hmem := HUP.out up[i] (List.getElem_mem hiu)
   have HUI := hide (HU.out up[i] (List.getElem_mem hiu))
   have HMEM := hide hmem
   obtain ⟨x,hx⟩ : ∃ x,up[i] = x := ⟨_,rfl⟩
   rw [hx] at hvc HUI HMEM
   have HX := hide hx
   clear hgi hmem hx
   have hlv := HUI.out.1
   have d6 := (HH.out wr HB.out).cells.2.1
   have LOOK := (HH.out wr HB.out).im.look (P := Tryz.prog) (t := 175) Tryz.underlying175 Tryz.underlying3 (zero_spot2 wr) x.id false
   rw [(HH.out wr HB.out).at HMEM.out] at LOOK
   have hform : x.v = .agg #[.int .i64 x.n.lv,.slice x.low.a x.low.s.length x.low.c,.int .i64 (x.w : Nat),.slice x.n.ks.a x.n.ks.L.length x.n.ks.c,.slice x.n.cs.a x.n.cs.s.length x.n.cs.c] := by
    unfold Sp.v Sp.kv Sp.cv
    rw [if_pos hlv,if_pos hlv]
    rfl
   have HFORM := hide hform
   rw [hform] at LOOK
   simp only [Option.getD_some,Bool.false_eq_true,if_false] at LOOK
   have HXOK : Hid (∀ Y,Below W.heap.size W Y → x.Ok Y (LAv X B m (some ⟨g,0,none⟩) none) s) := fun Y hb => (HH.out Y hb).sp x HMEM.out
   obtain ⟨cl,hcl⟩ : ∃ cl,x.n.cs.s.length = cl := ⟨_,rfl⟩
   obtain ⟨ca,hca⟩ : ∃ ca,x.n.cs.a = ca := ⟨_,rfl⟩
   rw [hcl,hca] at LOOK HFORM
   have HCL := hide hcl
   have HCA := hide hca
   have hcz : cl ≤ 140737488352000 := by have := (HXOK.out wr HB.out).n.cz; omega
   clear hform hlv hcl hca
   obtain ⟨cc,hcc⟩ : ∃ cc,x.n.cs.c = cc := ⟨_,rfl⟩
   rw [hcc] at LOOK HFORM
   obtain ⟨xw,hxw⟩ : ∃ xw,x.w = xw := ⟨_,rfl⟩
   rw [hxw] at LOOK HFORM
   obtain ⟨xlv,hxlv⟩ : ∃ y,x.n.lv = y := ⟨_,rfl⟩
   rw [hxlv] at LOOK HFORM
   obtain ⟨la,hla⟩ : ∃ y,x.low.a = y := ⟨_,rfl⟩
   obtain ⟨ll,hll⟩ : ∃ y,x.low.s.length = y := ⟨_,rfl⟩
   obtain ⟨lc,hlc⟩ : ∃ y,x.low.c = y := ⟨_,rfl⟩
   obtain ⟨ka,hka⟩ : ∃ y,x.n.ks.a = y := ⟨_,rfl⟩
   obtain ⟨kl,hkl⟩ : ∃ y,x.n.ks.L.length = y := ⟨_,rfl⟩
   obtain ⟨kc,hkc⟩ : ∃ y,x.n.ks.c = y := ⟨_,rfl⟩
   rw [hla,hll,hlc,hka,hkl,hkc] at LOOK HFORM
   obtain ⟨xid,hxid⟩ : ∃ y,x.id = y := ⟨_,rfl⟩
   rw [hxid] at LOOK hvc
   have HXID := hide hxid
   have HKL := hide hkl
   clear hcc hxw hxlv hla hll hlc hka hkl hkc hxid
   have HRET : Hid (∀ p,p < cl → s.kidAt x.q p ∉ dn.map Sp.q → R = xid) := fun p hp hno => by
    rw [HR.out,stray_at (i := i) (by rw [List.length_map]; exact hiu) (fun j hj hji => by rw [List.length_map] at hj; rw [List.getElem_map]; exact HA.out j hj hji)]
    ·rw [List.getElem_map,HX.out,← HXID.out]; rfl
    ·rw [List.getElem_map,HX.out]
     intro hok
     refine hno (hok p ?_)
     show p < (s.n x.id).cs.length
     rw [← (HXOK.out wr HB.out).p]
     show p < x.n.cs.s.length
     rw [HCL.out]; exact hp
   obtain ⟨w2,hw2⟩ : ∃ w2,w2 = wr.alloc (.cells #[.int .i64 xlv,.slice la ll lc,.int .i64 (xw : Nat),.slice ka kl kc,.slice ca cl cc] 219) := ⟨_,rfl⟩
   have b2 : Below wr.heap.size wr w2 := by rw [hw2]; exact (Below.refl _ _).alloc (Nat.le_refl _) _
   have G2 : Hid (w2.heap[wr.heap.size]? = some (.cells #[.int .i64 xlv,.slice la ll lc,.int .i64 (xw : Nat),.slice ka kl kc,.slice ca cl cc] 219 (0,0))) := by show _ = _; rw [hw2]; exact heap_alloc_new wr _
   have HW2 := hide hw2
   have B2 := hide (HB.out.trans (b2.mono HB.out.size))
   clear hw2 b2
   go_upto_region 7 with fail
   rw [← HW2.out]
   obtain ⟨e0,e1,e2,e3,e4⟩ : w2.cell? ⟨wr.heap.size,0,none⟩ = some (.int .i64 xlv) ∧ w2.cell? ⟨wr.heap.size,1,none⟩ = some (.slice la ll lc) ∧ w2.cell? ⟨wr.heap.size,2,none⟩ = some (.int .i64 (xw : Nat)) ∧ w2.cell? ⟨wr.heap.size,3,none⟩ = some (.slice ka kl kc) ∧ w2.cell? ⟨wr.heap.size,4,none⟩ = some (.slice ca cl cc) :=
    ⟨by rw [cell_of_row _ _ _ _ _ _ G2.out]; rfl,by rw [cell_of_row _ _ _ _ _ _ G2.out]; rfl,by rw [cell_of_row _ _ _ _ _ _ G2.out]; rfl,by rw [cell_of_row _ _ _ _ _ _ G2.out]; rfl,by rw [cell_of_row _ _ _ _ _ _ G2.out]; rfl⟩
   clear LOOK d6 hvc
   go_wp2_with fail
   generalize wr.heap.size = b7 at *
   go_loopw [44] (fun q44 wy => ∃ p : Nat,p ≤ cl ∧ q44 = .int .i64 (p : Int) ∧ Hid (KidsTo s (dn.map Sp.q) x.q p) ∧ Hid (Below W.heap.size W wy) ∧ Hid (wy.heap[b7]? = some (.cells #[.int .i64 xlv,.slice la ll lc,.int .i64 (xw : Nat),.slice ka kl kc,.slice ca cl cc] 219 (0,0)))) (fun q44 _ => cl - (intOf q44).toNat)
   case atStart => exact ⟨0,Nat.zero_le _,rfl,fun j hj => absurd hj (Nat.not_lt_zero j),B2,G2⟩
   case round =>
    obtain ⟨p,hp,rfl,HKT,HBY,G7⟩ := hrel
    rename World => wy
    by_cases hpl : p < cl
    ·have jp : (p : Int) < (cl : Int) := by omega
     have hpc : p < x.n.cs.s.length := by rw [HCL.out]; exact hpl
     obtain ⟨cb,co,hcca,hccc⟩ := (HXOK.out wy HBY.out).n.c.r p hpc
     rw [HCA.out] at hcca
     subst hcca
     have hkidA : s.kidAt x.q p = (x.n.cs.s.getD p 0,if p = 0 then x.low.s else x.n.p.ks.getD (p - 1) []) := by
      unfold AS.kidAt Sp.q
      simp only
      rw [← (HXOK.out wy HBY.out).p]
      rfl
     have HKA := hide hkidA
     have hfind := LQ.find O (x.n.cs.s.getD p 0)
     obtain ⟨kid,hkid⟩ : ∃ kid,x.n.cs.s.getD p 0 = kid := ⟨_,rfl⟩
     rw [hkid] at hccc HKA hfind
     clear hkidA hkid
     have d6 := (HH.out wy HBY.out).cells.2.1
     have LOOK := (HH.out wy HBY.out).im.look (P := Tryz.prog) (t := 175) Tryz.underlying175 Tryz.underlying3 (zero_spot2 wy) kid true
     rw [if_pos rfl] at LOOK
     rcases hfind with hnone | ⟨y,hy,hyid,hat⟩
     ·rw [hnone] at LOOK
      simp only [Option.getD_none,Option.isSome_none] at LOOK
      obtain ⟨w5,hw5⟩ : ∃ w5,w5 = wy.alloc (.cells #[.int .i64 0,.slice none 0 0,.int .i64 0,.slice none 0 0,.slice none 0 0] 219) := ⟨_,rfl⟩
      have b5 : Below wy.heap.size wy w5 := by rw [hw5]; exact (Below.refl _ _).alloc (Nat.le_refl _) _
      have B5 := hide (HBY.out.trans (b5.mono HBY.out.size))
      have HW5 := hide hw5
      have HNO : R = xid := HRET.out p hpl (by rw [HKA.out]; exact (HH.out wy HBY.out).kid_no HD.out hnone _)
      subst HNO
      clear hw5 b5 hnone
      go_upto_region 11 with fail
      rw [← HW5.out]
      go_quiet (fail)
      go_wp2_with fail
      go_ret
      exact ⟨rfl,below_drewN B5.out _⟩
     ·obtain ⟨fka,fkl,fkc,fca,fcl,fcc,hform⟩ := y.form3
      rw [hat,hform] at LOOK
      simp only [Option.getD_some,Option.isSome_some] at LOOK
      have HYOK := hide ((HH.out wy HBY.out).sp y hy)
      have HKY : Hid (∀ want,(kid,want) ∈ dn.map Sp.q ↔ y.n.lv = lev ∧ y.low.s = want) := fun want => by rw [← hyid]; exact (HH.out wy HBY.out).kid_yes HD.out HL.out hy want
      obtain ⟨ylv,hylv⟩ : ∃ z,y.n.lv = z := ⟨_,rfl⟩
      obtain ⟨⟨ya,yc,ys⟩,hyl⟩ : ∃ z,y.low = z := ⟨_,rfl⟩
      have HYL : Hid ((⟨ya,yc,ys⟩ : Tx).Ok wy) := by show Tx.Ok _ _; rw [← hyl]; exact HYOK.out.l
      rw [hylv,hyl] at LOOK HKY
      simp only at LOOK HKY
      obtain ⟨yll,hyll⟩ : ∃ z,ys.length = z := ⟨_,rfl⟩
      rw [hyll] at LOOK
      have HYLL := hide hyll
      generalize y.w = yw at *
      clear hform hat hyid hylv hyl hyll hy
      obtain ⟨w5,hw5⟩ : ∃ w5,w5 = wy.alloc (.cells #[.int .i64 ylv,.slice ya yll yc,.int .i64 (yw : Nat),.slice fka fkl fkc,.slice fca fcl fcc] 219) := ⟨_,rfl⟩
      have b5 : Below wy.heap.size wy w5 := by rw [hw5]; exact (Below.refl _ _).alloc (Nat.le_refl _) _
      have B5 := hide (HBY.out.trans (b5.mono HBY.out.size))
      have G5 : Hid (w5.heap[wy.heap.size]? = some (.cells #[.int .i64 ylv,.slice ya yll yc,.int .i64 (yw : Nat),.slice fka fkl fkc,.slice fca fcl fcc] 219 (0,0))) := by show _ = _; rw [hw5]; exact heap_alloc_new wy _
      have HYL5 := hide (HYL.out.below b5)
      have G75 : Hid (w5.heap[b7]? = some (.cells #[.int .i64 xlv,.slice la ll lc,.int .i64 (xw : Nat),.slice ka kl kc,.slice (some ⟨cb,co,none⟩) cl cc] 219 (0,0))) := (b5.block _ (lt_of_block G7.out)).trans G7.out
      have HW5 := hide hw5
      clear hw5 b5
      go_upto_region 11 with fail
      rw [← HW5.out]
      generalize wy.heap.size = b10 at *
      have KC : Hid (∀ Y,Below w5.heap.size w5 Y → (Y.cell? ⟨b10,0,none⟩ = some (.int .i64 ylv) ∧ Y.cell? ⟨b10,1,none⟩ = some (.slice ya yll yc)) ∧ Y.cell? ⟨b7,0,none⟩ = some (.int .i64 xlv) ∧ Y.cell? ⟨b7,1,none⟩ = some (.slice la ll lc) ∧ Y.cell? ⟨b7,2,none⟩ = some (.int .i64 (xw : Nat)) ∧ Y.cell? ⟨b7,3,none⟩ = some (.slice ka kl kc) ∧ Y.cell? ⟨b7,4,none⟩ = some (.slice (some ⟨cb,co,none⟩) cl cc)) := fun Y hb => by
       have h1 := (hb.block _ (lt_of_block G5.out)).trans G5.out
       have h2 := (hb.block _ (lt_of_block G75.out)).trans G75.out
       exact ⟨⟨by rw [cell_of_row _ _ _ _ _ _ h1]; rfl,by rw [cell_of_row _ _ _ _ _ _ h1]; rfl⟩,by rw [cell_of_row _ _ _ _ _ _ h2]; rfl,by rw [cell_of_row _ _ _ _ _ _ h2]; rfl,by rw [cell_of_row _ _ _ _ _ _ h2]; rfl,by rw [cell_of_row _ _ _ _ _ _ h2]; rfl,by rw [cell_of_row _ _ _ _ _ _ h2]; rfl⟩
      obtain ⟨⟨m0,m1⟩,f0,f1,f2,f3,f4⟩ := KC.out w5 (Below.refl _ _)
      clear LOOK d6 hccc
      by_cases hyl : ylv = lev
      ·subst hyl
       have HAH : Hid (Calls Tryz.prog 149 #[.agg #[.int .i64 xlv,.slice la ll lc,.int .i64 (xw : Nat),.slice ka kl kc,.slice (some ⟨cb,co,none⟩) cl cc],.int .i64 (p : Nat)] w5.drew fun e w' => ∃ t : Tx,e = .returned t.v ∧ t.Ok w5.drew ∧ t.s = (if p = 0 then x.low.s else x.n.p.ks.getD (p - 1) []) ∧ Below w5.drew.heap.size w5.drew w') := by
        show Calls _ _ _ _ _
        have := sahead_any x _ w5.drew (HXOK.out w5.drew (below_drew B5.out)) HUI.out.1 p (by have := HUI.out.2; omega)
        rw [HFORM.out] at this
        exact this
       have HEQ : Hid (∀ (t : Tx) (Y : World),Below w5.heap.size w5 Y → t.Ok Y → Calls Tryz.prog 148 #[.slice ya yll yc,t.v] Y fun e w' => e = .returned (.bool (decide (ys = t.s))) ∧ w' = Y) := fun t Y hb ht => nequal_any ya t.a yll yc t.s.length t.c ys t.s Y HYLL.out rfl (HYL5.out.below hb).r ht.r HYL5.out.b8 ht.b8
       generalize hwant : (if p = 0 then x.low.s else x.n.p.ks.getD (p - 1) []) = want at *
       clear hwant
       by_cases hys : ys = want
       ·have HIN : Hid (s.kidAt x.q p ∈ dn.map Sp.q) := by show _ ∈ _; rw [HKA.out]; exact (HKY.out want).2 ⟨rfl,hys⟩
        go_region_held3 (fun Y => (Y.cell? ⟨b10,0,none⟩ = some (.int .i64 ylv) ∧ Y.cell? ⟨b10,1,none⟩ = some (.slice ya yll yc)) ∧ Y.cell? ⟨b7,0,none⟩ = some (.int .i64 xlv) ∧ Y.cell? ⟨b7,1,none⟩ = some (.slice la ll lc) ∧ Y.cell? ⟨b7,2,none⟩ = some (.int .i64 (xw : Nat)) ∧ Y.cell? ⟨b7,3,none⟩ = some (.slice ka kl kc) ∧ Y.cell? ⟨b7,4,none⟩ = some (.slice (some ⟨cb,co,none⟩) cl cc)) (go_keep) (first
         | (go_at_call 148; refine (HEQ.out ⟨ta,tc,ts⟩ w6 B6.out HT.out.1).mono ?_; rintro e w7 ⟨rfl,hw7⟩; rw [decide_eq_true HT.out.2]; obtain rfl := hw7.symm; skip)
         | (go_at_call 149; refine HAH.out.mono ?_; rintro e w6 ⟨⟨ta,tc,ts⟩,rfl,ht1,ht2,hb6⟩; have B6 : Hid (Below w5.heap.size w5 w6) := ⟨hb6.os,hb6.tape,hb6.output,hb6.size,hb6.block⟩; have HT : Hid ((⟨ta,tc,ts⟩ : Tx).Ok w6 ∧ ys = ts) := ⟨ht1.below hb6,hys.trans ht2.symm⟩; simp only [Tx.v]; obtain ⟨⟨r0,r1⟩,r2,r3,r4,r5,r6⟩ := KC.out w6 B6.out; clear ht1 ht2 hb6)
         | fail)
        go_wp2_with fail
        go_roundw
        case rel =>
         refine ⟨p + 1,by omega,by go_num,fun k hk hc => ?_,B5.out.trans (B6.out.mono B5.out.size),(B6.out.block _ (lt_of_block G75.out)).trans G75.out⟩
         rcases Nat.lt_or_ge k p with h | h
         ·exact HKT.out k h hc
         ·obtain rfl : k = p := by omega
          exact HIN.out
        case measure => simp [intOf]; omega
       ·have HNO : R = xid := HRET.out p hpl (by rw [HKA.out]; exact fun e => hys ((HKY.out want).1 e).2)
        subst HNO
        go_region_held3 (fun Y => (Y.cell? ⟨b10,0,none⟩ = some (.int .i64 ylv) ∧ Y.cell? ⟨b10,1,none⟩ = some (.slice ya yll yc)) ∧ Y.cell? ⟨b7,0,none⟩ = some (.int .i64 xlv) ∧ Y.cell? ⟨b7,1,none⟩ = some (.slice la ll lc) ∧ Y.cell? ⟨b7,2,none⟩ = some (.int .i64 (xw : Nat)) ∧ Y.cell? ⟨b7,3,none⟩ = some (.slice ka kl kc) ∧ Y.cell? ⟨b7,4,none⟩ = some (.slice (some ⟨cb,co,none⟩) cl cc)) (go_keep) (first
         | (go_at_call 148; refine (HEQ.out ⟨ta,tc,ts⟩ w6 B6.out HT.out.1).mono ?_; rintro e w7 ⟨rfl,hw7⟩; rw [decide_eq_false HT.out.2]; obtain rfl := hw7.symm; skip)
         | (go_at_call 149; refine HAH.out.mono ?_; rintro e w6 ⟨⟨ta,tc,ts⟩,rfl,ht1,ht2,hb6⟩; have B6 : Hid (Below w5.heap.size w5 w6) := ⟨hb6.os,hb6.tape,hb6.output,hb6.size,hb6.block⟩; have HT : Hid ((⟨ta,tc,ts⟩ : Tx).Ok w6 ∧ ¬ ys = ts) := ⟨ht1.below hb6,fun e => hys (e.trans ht2)⟩; simp only [Tx.v]; obtain ⟨⟨r0,r1⟩,r2,r3,r4,r5,r6⟩ := KC.out w6 B6.out; clear ht1 ht2 hb6)
         | fail)
        go_wp2_with fail
        go_ret
        exact ⟨rfl,B5.out.trans (B6.out.mono B5.out.size)⟩
      ·have HNO : R = xid := HRET.out p hpl (by rw [HKA.out]; exact fun e => hyl ((HKY.out _).1 e).1)
       subst HNO
       have hyl2 : (ylv == lev) = false := by rw [beq_eq_false_iff_ne]; exact hyl
       go_quiet (fail)
       go_wp2_with fail
       go_ret
       exact ⟨rfl,below_drewN B5.out _⟩
    ·have jp : ¬ (p : Int) < (cl : Int) := by omega
     obtain rfl : p = cl := by omega
     go_wp2_with fail
     go_roundw
     case rel =>
      refine ⟨i + 1,by omega,by go_num,fun j hj hji => ?_,HBY⟩
      rcases Nat.lt_or_ge j i with h | h
      ·exact HA.out j hj h
      ·obtain rfl : j = i := by omega
       rw [HX.out]
       intro k hk
       have : (s.n x.q.1).cs.length = p := by
        show (s.n x.id).cs.length = p
        rw [← (HXOK.out wy HBY.out).p]
        exact HCL.out
       exact HKT.out k (by omega) hk
     case measure => simp [intOf]; omega
  ·have j1 : ¬ (i : Int) < (ul : Int) := by omega
   obtain rfl : i = ul := by omega
   have HNO : R = 0 := by
    rw [HR.out,stray_none]
    ·rfl
    ·intro j hj
     rw [List.length_map] at hj
     rw [List.getElem_map]
     exact HA.out j hj (by rw [← HUL.out]; exact hj)
   subst HNO
   go_wp2_with fail
   go_ret
   exact ⟨rfl,HB.out⟩
end
end Go.Proofs.YtljnapejgjffjaaGreat
