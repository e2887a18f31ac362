/- Texts of one's own. -/
import Derived.Test.YtljnapejgjffjaaGreatH49
import Derived.Carry
namespace Go.Proofs.YtljnapejgjffjaaGreat
open Go.RowKit
set_option maxRecDepth 100000
def LkP (W : World) (A : Nat) (nd lf inn fl bk : Int) (s : AS) (e : Ending) (w' : World) : Prop :=
 Below W.heap.size W w' ∧ ((∃ id er v,s.look nd lf inn fl bk = .inl (id,er) ∧ e = .returned (.tuple #[.pointer v,rpt false id er 0 0 0])) ∨
  ∃ B m N ga gc O ov c,s.look nd lf inn fl bk = .inr (chQ O) ∧ O.getLast? = some c ∧ e = .returned (.tuple #[.pointer (some ⟨B,0,none⟩),rpt true 0 0 (O.length : Nat) (O.flatten.length : Nat) (wdS c : Nat)]) ∧ LQ w' (fun _ => False) B m N A ga gc nd lf inn fl bk s O ov ∧ Lvs s (fun p => nchkE p nd lf inn fl bk) O (-1))
theorem rpt_form (b : Bool) (id er lv no en : Int) : rpt b id er lv no en = .agg #[.bool b,.int .i64 id,.int .i64 er,.int .i64 lv,.int .i64 no,.int .i64 en] := rfl
set_option maxHeartbeats 3200000 in
theorem lookAt_any {W : World} {A : Nat} {F : Nat → Prop} {s : AS} (hp : PX W A F s) (nd lf inn fl bk : Int) :
  Calls Tryz.prog 53 #[.pointer (some ⟨A,0,none⟩),.agg #[.int .i64 nd,.int .i64 lf,.int .i64 inn,.int .i64 fl,.int .i64 bk]] W (LkP W A nd lf inn fl bk s) := by
 obtain ⟨w1,hw1⟩ : ∃ x,x = W.alloc (.cells #[.int .i64 nd,.int .i64 lf,.int .i64 inn,.int .i64 fl,.int .i64 bk] 23) := ⟨_,rfl⟩
 obtain ⟨w2,hw2⟩ : ∃ x,x = w1.alloc (.cells #[.bool false,.int .i64 0,.int .i64 0,.int .i64 0,.int .i64 0,.int .i64 0] 54) := ⟨_,rfl⟩
 have z1 : w1.heap.size = W.heap.size + 1 := by rw [hw1]; simp
 have b1 : Below W.heap.size W w1 := by rw [hw1]; exact (Below.refl _ _).alloc (Nat.le_refl _) _
 have b12 : Below w1.heap.size w1 w2 := by rw [hw2]; exact (Below.refl _ _).alloc (Nat.le_refl _) _
 have g1 : w1.heap[W.heap.size]? = some (.cells #[.int .i64 nd,.int .i64 lf,.int .i64 inn,.int .i64 fl,.int .i64 bk] 23 (0,0)) := by rw [hw1]; exact heap_alloc_new W _
 have G1 : Hid (w2.heap[W.heap.size]? = some (.cells #[.int .i64 nd,.int .i64 lf,.int .i64 inn,.int .i64 fl,.int .i64 bk] 23 (0,0))) := (b12.block _ (by omega)).trans g1
 have G2 : Hid (w2.heap[W.heap.size + 1]? = some (.cells #[.bool false,.int .i64 0,.int .i64 0,.int .i64 0,.int .i64 0,.int .i64 0] 54 (0,0))) := by show _ = _; rw [← z1,hw2]; exact heap_alloc_new w1 _
 have B2 := hide (b1.trans (b12.mono b1.size))
 have HW2 : Hid ((W.alloc (.cells #[.int .i64 nd,.int .i64 lf,.int .i64 inn,.int .i64 fl,.int .i64 bk] 23)).alloc (.cells #[.bool false,.int .i64 0,.int .i64 0,.int .i64 0,.int .i64 0,.int .i64 0] 54) = w2) := by show _ = _; rw [hw2,hw1]
 have HP := hide hp
 have HCG := hide (config_any nd lf inn fl bk w2)
 obtain ⟨d0,d1,d2,d3,d4⟩ := five_of G1.out
 clear hw1 hw2 z1 b1 b12 g1 hp
 by_cases hcf : cfgOk nd lf inn fl bk
 ·rw [show cfgE nd lf inn fl bk = 0 from if_pos hcf] at HCG
  have HCF := hide hcf
  clear hcf
  go_enter Tryz.func53,Tryz.ntmps53
  go_upto_region 1 with fail
  rw [HW2.out]
  go_wp2_with fail
  refine HCG.out.mono ?_
  rintro e w3 ⟨rfl,hb3⟩
  have B3 := hide (B2.out.trans (hb3.mono B2.out.size))
  have B23 := hide hb3
  have HHL := hide (px_held (HP.out.below B3.out))
  clear hb3 d0 d1 d2 d3 d4
  go_wp2_with fail
  refine HHL.out.mono ?_
  rintro e w4 ⟨v4,rfl,hv4,hb4⟩
  have B4 := hide (B3.out.trans (hb4.mono B3.out.size))
  have B24 := hide (B23.out.trans (hb4.mono B23.out.size))
  have G14 : Hid (w4.heap[W.heap.size]? = _) := (B24.out.block _ (lt_of_block G1.out)).trans G1.out
  have G24 : Hid (w4.heap[W.heap.size + 1]? = _) := (B24.out.block _ (lt_of_block G2.out)).trans G2.out
  cases hh : s.held with
  | nil =>
   rw [hh] at hv4
   obtain ⟨va,vc,rfl⟩ : ∃ va vc,v4 = .slice va 0 vc := by
    rcases hv4.2 with ⟨h,_⟩ | ⟨g,cap,cu,h,_⟩
    ·exact ⟨_,_,h⟩
    ·exact ⟨_,_,h⟩
   have HR : Hid (s.look nd lf inn fl bk = s.lvs (fun p => nchkE p nd lf inn fl bk) (s.sl.length + 1) (s.rd s.root).lv s.root []) := by
    show _ = _
    unfold AS.look
    rw [if_pos HCF.out,hh]
   obtain ⟨w5,hw5⟩ : ∃ x,x = w4.alloc (.map #[] 0) := ⟨_,rfl⟩
   obtain ⟨w6,hw6⟩ : ∃ x,x = w5.alloc (.cells (lookC A nd lf inn fl bk w4.heap.size (.slice none 0 0)) 178) := ⟨_,rfl⟩
   have z5 : w5.heap.size = w4.heap.size + 1 := by rw [hw5]; simp
   have b5 : Below w4.heap.size w4 w5 := by rw [hw5]; exact (Below.refl _ _).alloc (Nat.le_refl _) _
   have b56 : Below w5.heap.size w5 w6 := by rw [hw6]; exact (Below.refl _ _).alloc (Nat.le_refl _) _
   have b6 := b5.trans (b56.mono b5.size)
   have i5 : IM w5 w4.heap.size [] := by rw [hw5]; exact IM.new w4
   have i6 : IM w6 w4.heap.size [] := i5.below b56
   have g6 : w6.heap[w4.heap.size + 1]? = some (.cells (lookC A nd lf inn fl bk w4.heap.size (.slice none 0 0)) 178 (0,0)) := by rw [← z5,hw6]; exact heap_alloc_new w5 _
   have B6 := hide (B4.out.trans (b6.mono B4.out.size))
   have hW4 : W.heap.size + 1 < w4.heap.size := lt_of_block G24.out
   have LQ6 : Hid (LQ w6 (fun k => k = W.heap.size + 1) (w4.heap.size + 1) w4.heap.size w4.heap.size A none 0 nd lf inn fl bk s [] []) :=
    ⟨g6,i6,World.ownsRow_nil _ _ _ _,⟨fun v hv => (by cases hv),fun v hv => (by cases hv),rfl⟩,fun x hx => (by cases hx),fun k hk => ⟨by have := b6.size; omega,by
     rintro (e | e | ⟨y,e,_⟩ | ⟨y,e,_⟩)
     ·omega
     ·omega
     ·cases e
     ·cases e⟩,by omega,Nat.le_refl _,by omega,fun y e => (by cases e)⟩
   have HDS := hide (descend_any LQ6.out (HP.out.below B6.out) (fun k hk => by have := HP.out.lt k hk; omega) b6.size HCF.out)
   have HW6 : Hid ((w4.alloc (.map #[] 0)).alloc (.cells #[.pointer (some ⟨A,0,none⟩),.int .i64 nd,.int .i64 lf,.int .i64 inn,.int .i64 fl,.int .i64 bk,.map (some w4.heap.size),.slice none 0 0] 178) = w6) := by show _ = _; rw [hw6,hw5]; rfl
   rw [← HR.out] at HDS
   have B46 := hide b6
   have HW4 := hide hW4
   obtain ⟨d0,d1,d2,d3,d4⟩ := five_of G14.out
   have MM := fun t => run_makeMap (P := Tryz.prog) t w4
   clear hh hv4 hb4 hw5 hw6 z5 b5 b56 b6 i5 i6 g6 hW4
   go_upto_region 7 with fail
   rw [HW6.out]
   go_wp2_with fail
   refine HDS.out.mono ?_
   rintro e w7 ⟨hb7,hcase⟩
   have G27 : Hid (w7.heap[W.heap.size + 1]? = some (.cells #[.bool false,.int .i64 0,.int .i64 0,.int .i64 0,.int .i64 0,.int .i64 0] 54 (0,0))) := (hb7.block _ HW4.out).trans ((B46.out.block _ HW4.out).trans G24.out)
   have B7 : Hid (Below W.heap.size W w7) := B6.out.trans (hb7.mono (by have := HW4.out; omega))
   obtain ⟨y0,y1,y2,y3,y4,y5⟩ := Six.of G27.out
   have F5 := fun j => frozen_of G27.out j
   clear hb7 d0 d1 d2 d3 d4 MM
   rcases hcase with ⟨id,er,hR,rfl⟩ | ⟨ga,gc,O,ov,c,hR,hlast,rfl,hlq,hlv⟩
   ·have HR2 := hide hR
    clear hR
    simp only [rpt_form]
    go_wp2_with fail
    (try simp only [Exit.inBlock,Exit.then])
    have G9 := six_block G27.out (.bool false) (.int .i64 id) (.int .i64 er) (.int .i64 0) (.int .i64 0) (.int .i64 0)
    have U9 : Upd (fun b => b = W.heap.size + 1) w7 (six6 w7 (W.heap.size + 1) (.bool false) (.int .i64 id) (.int .i64 er) (.int .i64 0) (.int .i64 0) (.int .i64 0)) := six_upd _ _ _ _ _ _ _ _ _ rfl
    obtain ⟨q0,q1,q2,q3,q4,q5⟩ := Six.of G9
    show bodyPost _ _ _ _ _ (six6 w7 (W.heap.size + 1) (.bool false) (.int .i64 id) (.int .i64 er) (.int .i64 0) (.int .i64 0) (.int .i64 0))
    generalize six6 w7 (W.heap.size + 1) (.bool false) (.int .i64 id) (.int .i64 er) (.int .i64 0) (.int .i64 0) (.int .i64 0) = w9 at *
    refine bodyPost_ret (v := .tuple #[.pointer (some ⟨w4.heap.size + 1,0,none⟩),.agg #[.bool false,.int .i64 id,.int .i64 er,.int .i64 0,.int .i64 0,.int .i64 0]]) (by simp [results,Tryz.results53,go_sem,q0,q1,q2,q3,q4,q5]) rfl ?_
    have BB : Below W.heap.size W w9 := B7.out.trans (U9.below B7.out.size (fun k hk e => by omega))
    exact ⟨BB,.inl ⟨id,er,_,HR2.out,rfl⟩⟩
   ·have HR2 := hide (And.intro hR hlast)
    have HLQ := hide hlq
    have HLV := hide hlv
    obtain ⟨ol,hol⟩ : ∃ ol,O.length = ol := ⟨_,rfl⟩
    obtain ⟨fo,hfo⟩ : ∃ fo,O.flatten.length = fo := ⟨_,rfl⟩
    obtain ⟨WD,hWD⟩ : ∃ WD,wdS c = WD := ⟨_,rfl⟩
    rw [hol,hfo,hWD]
    have HOL := hide (And.intro hol (And.intro hfo hWD))
    clear hR hlast hlq hlv hol hfo hWD
    simp only [rpt_form]
    go_wp2_with fail
    (try simp only [Exit.inBlock,Exit.then])
    have G9 := six_block G27.out (.bool true) (.int .i64 0) (.int .i64 0) (.int .i64 (ol : Nat)) (.int .i64 (fo : Nat)) (.int .i64 (WD : Nat))
    have U9 : Upd (fun b => b = W.heap.size + 1) w7 (six6 w7 (W.heap.size + 1) (.bool true) (.int .i64 0) (.int .i64 0) (.int .i64 (ol : Nat)) (.int .i64 (fo : Nat)) (.int .i64 (WD : Nat))) := six_upd _ _ _ _ _ _ _ _ _ rfl
    obtain ⟨q0,q1,q2,q3,q4,q5⟩ := Six.of G9
    show bodyPost _ _ _ _ _ (six6 w7 (W.heap.size + 1) (.bool true) (.int .i64 0) (.int .i64 0) (.int .i64 (ol : Nat)) (.int .i64 (fo : Nat)) (.int .i64 (WD : Nat)))
    generalize six6 w7 (W.heap.size + 1) (.bool true) (.int .i64 0) (.int .i64 0) (.int .i64 (ol : Nat)) (.int .i64 (fo : Nat)) (.int .i64 (WD : Nat)) = w9 at *
    refine bodyPost_ret (v := .tuple #[.pointer (some ⟨w4.heap.size + 1,0,none⟩),.agg #[.bool true,.int .i64 0,.int .i64 0,.int .i64 (ol : Nat),.int .i64 (fo : Nat),.int .i64 (WD : Nat)]]) (by simp [results,Tryz.results53,go_sem,q0,q1,q2,q3,q4,q5]) rfl ?_
    have BB : Below W.heap.size W w9 := B7.out.trans (U9.below B7.out.size (fun k hk e => by omega))
    exact ⟨BB,.inr ⟨_,_,_,_,_,O,_,c,HR2.out.1,HR2.out.2,by rw [HOL.out.1,HOL.out.2.1,HOL.out.2.2]; rfl,(HLQ.out.other U9).more (Below.refl _ _) (fun k hk => hk.elim) (fun k hk => ((HLQ.out.other U9).mut_lt k hk).2),HLV.out⟩⟩
  | cons hd rest =>
   rw [hh] at hv4
   obtain ⟨vg,vc,rfl⟩ : ∃ vg vc,v4 = .slice (some ⟨vg,0,none⟩) (rest.length + 1) vc := by
    rcases hv4.2 with ⟨_,h⟩ | ⟨g,cap,cu,h,_⟩
    ·simp at h
    ·exact ⟨_,_,h⟩
   have hc0 : w4.cell? ⟨vg,0,none⟩ = some (.int .i64 hd) := by
    have := hv4.cells (g := vg) rfl 0 (.int .i64 hd) rfl
    rw [Addr.add_lit] at this
    exact this
   have HR : Hid (s.look nd lf inn fl bk = .inl (hd,102)) := by
    show _ = _
    unfold AS.look
    rw [if_pos HCF.out,hh]
   obtain ⟨rl,hrl⟩ : ∃ rl,rest.length + 1 = rl := ⟨_,rfl⟩
   rw [hrl]
   have hp1 : (0 : Int) < (rl : Int) := by omega
   have hp2 : 0 < rl := by omega
   have HWR := hide (swrong_any hd 102 w4)
   clear hh hv4 hb4 hrl
   go_wp2_with fail
   refine HWR.out.mono ?_
   rintro e w7 ⟨rfl,hb7⟩
   have G27 : Hid (w7.heap[W.heap.size + 1]? = some (.cells #[.bool false,.int .i64 0,.int .i64 0,.int .i64 0,.int .i64 0,.int .i64 0] 54 (0,0))) := (hb7.block _ (lt_of_block G24.out)).trans G24.out
   have B7 : Hid (Below W.heap.size W w7) := B4.out.trans (hb7.mono B4.out.size)
   obtain ⟨y0,y1,y2,y3,y4,y5⟩ := Six.of G27.out
   have F5 := fun j => frozen_of G27.out j
   simp only [rpt_form]
   clear hb7
   go_wp2_with fail
   (try simp only [Exit.inBlock,Exit.then])
   have G9 := six_block G27.out (.bool false) (.int .i64 hd) (.int .i64 102) (.int .i64 0) (.int .i64 0) (.int .i64 0)
   have U9 : Upd (fun b => b = W.heap.size + 1) w7 (six6 w7 (W.heap.size + 1) (.bool false) (.int .i64 hd) (.int .i64 102) (.int .i64 0) (.int .i64 0) (.int .i64 0)) := six_upd _ _ _ _ _ _ _ _ _ rfl
   obtain ⟨q0,q1,q2,q3,q4,q5⟩ := Six.of G9
   show bodyPost _ _ _ _ _ (six6 w7 (W.heap.size + 1) (.bool false) (.int .i64 hd) (.int .i64 102) (.int .i64 0) (.int .i64 0) (.int .i64 0))
   generalize six6 w7 (W.heap.size + 1) (.bool false) (.int .i64 hd) (.int .i64 102) (.int .i64 0) (.int .i64 0) (.int .i64 0) = w9 at *
   refine bodyPost_ret (v := .tuple #[.pointer (none),.agg #[.bool false,.int .i64 hd,.int .i64 102,.int .i64 0,.int .i64 0,.int .i64 0]]) (by simp [results,Tryz.results53,go_sem,q0,q1,q2,q3,q4,q5]) rfl ?_
   have BB : Below W.heap.size W w9 := B7.out.trans (U9.below B7.out.size (fun k hk e => by omega))
   exact ⟨BB,.inl ⟨hd,102,_,HR.out,rfl⟩⟩
 ·rw [show cfgE nd lf inn fl bk = 1 from if_neg hcf] at HCG
  have HR : Hid (s.look nd lf inn fl bk = .inl (0,1)) := if_neg hcf
  clear hcf
  go_enter Tryz.func53,Tryz.ntmps53
  go_upto_region 1 with fail
  rw [HW2.out]
  go_wp2_with fail
  refine HCG.out.mono ?_
  rintro e w3 ⟨rfl,hb3⟩
  have B3 := hide (B2.out.trans (hb3.mono B2.out.size))
  have HWR := hide (swrong_any 0 1 w3)
  have G23 : Hid (w3.heap[W.heap.size + 1]? = _) := (hb3.block _ (lt_of_block G2.out)).trans G2.out
  clear hb3 d0 d1 d2 d3 d4
  go_wp2_with fail
  refine HWR.out.mono ?_
  rintro e w7 ⟨rfl,hb7⟩
  have G27 : Hid (w7.heap[W.heap.size + 1]? = some (.cells #[.bool false,.int .i64 0,.int .i64 0,.int .i64 0,.int .i64 0,.int .i64 0] 54 (0,0))) := (hb7.block _ (lt_of_block G23.out)).trans G23.out
  have B7 : Hid (Below W.heap.size W w7) := B3.out.trans (hb7.mono B3.out.size)
  obtain ⟨y0,y1,y2,y3,y4,y5⟩ := Six.of G27.out
  have F5 := fun j => frozen_of G27.out j
  simp only [rpt_form]
  clear hb7
  go_wp2_with fail
  (try simp only [Exit.inBlock,Exit.then])
  have G9 := six_block G27.out (.bool false) (.int .i64 0) (.int .i64 1) (.int .i64 0) (.int .i64 0) (.int .i64 0)
  have U9 : Upd (fun b => b = W.heap.size + 1) w7 (six6 w7 (W.heap.size + 1) (.bool false) (.int .i64 0) (.int .i64 1) (.int .i64 0) (.int .i64 0) (.int .i64 0)) := six_upd _ _ _ _ _ _ _ _ _ rfl
  obtain ⟨q0,q1,q2,q3,q4,q5⟩ := Six.of G9
  show bodyPost _ _ _ _ _ (six6 w7 (W.heap.size + 1) (.bool false) (.int .i64 0) (.int .i64 1) (.int .i64 0) (.int .i64 0) (.int .i64 0))
  generalize six6 w7 (W.heap.size + 1) (.bool false) (.int .i64 0) (.int .i64 1) (.int .i64 0) (.int .i64 0) (.int .i64 0) = w9 at *
  refine bodyPost_ret (v := .tuple #[.pointer (none),.agg #[.bool false,.int .i64 0,.int .i64 1,.int .i64 0,.int .i64 0,.int .i64 0]]) (by simp [results,Tryz.results53,go_sem,q0,q1,q2,q3,q4,q5]) rfl ?_
  have BB : Below W.heap.size W w9 := B7.out.trans (U9.below B7.out.size (fun k hk e => by omega))
  exact ⟨BB,.inl ⟨0,1,_,HR.out,rfl⟩⟩
def AS.rep (s : AS) (nd lf inn fl bk : Int) (v : Value) : Prop :=
 (∃ id er,s.look nd lf inn fl bk = .inl (id,er) ∧ v = rpt false id er 0 0 0) ∨
  ∃ ls c,s.look nd lf inn fl bk = .inr ls ∧ ls.getLast? = some c ∧ v = rpt true 0 0 (ls.length : Nat) ((idsOf ls).length : Nat) ((c.map fun x => (s.n x.1).ks.length).sum : Nat)
theorem wdS_leaf {s : AS} : ∀ (c : List Sp),(∀ x ∈ c,x.n.lv = 0 ∧ x.n.p = s.n x.id) → wdS c = ((c.map Sp.q).map fun x => (s.n x.1).ks.length).sum
 | [],_ => rfl
 | x :: r,h => by
  have h1 := wdS_leaf r (fun y hy => h y (.tail _ hy))
  have h2 := h x (.head _)
  unfold wdS at h1 ⊢
  simp only [List.map_cons,List.sum_cons]
  rw [h1]
  congr 1
  unfold Sp.w
  rw [if_neg (by omega)]
  show x.n.ks.L.length = (s.n x.id).ks.length
  rw [← h2.2]
  exact (TL.p_len _).symm
theorem lkp_rep {W w' : World} {A : Nat} {nd lf inn fl bk : Int} {s : AS} {e : Ending} (h : LkP W A nd lf inn fl bk s e w') : ∃ p v,e = .returned (.tuple #[.pointer p,v]) ∧ s.rep nd lf inn fl bk v := by
 obtain ⟨_,h | h⟩ := h
 ·obtain ⟨id,er,p,h1,h2⟩ := h
  exact ⟨p,_,h2,.inl ⟨id,er,h1,rfl⟩⟩
 ·obtain ⟨B,m,N,ga,gc,O,ov,c,h1,h2,h3,hlq,hlv⟩ := h
  refine ⟨_,_,h3,.inr ⟨chQ O,c.map Sp.q,h1,?_,?_⟩⟩
  ·unfold chQ; rw [List.getLast?_map,h2]; rfl
  ·have e1 : (chQ O).length = O.length := by simp [chQ]
   have e2 : (idsOf (chQ O)).length = O.flatten.length := by rw [chQ_ids,List.length_map]
   rw [e1,e2,wdS_leaf c]
   intro x hx
   rw [List.getLast?_eq_getElem?] at h2
   obtain ⟨hi,hc⟩ := List.getElem?_eq_some_iff.1 h2
   have hxo : x ∈ O.flatten := List.mem_flatten.2 ⟨c,by rw [← hc]; exact List.getElem_mem _,hx⟩
   refine ⟨?_,(hlq.sp x hxo).p⟩
   have := hlv.lv (O.length - 1) hi x (by rw [hc]; exact hx)
   omega
theorem rep_form {s : AS} {nd lf inn fl bk : Int} {v : Value} (h : s.rep nd lf inn fl bk v) : ∃ b i e l n en,v = .agg #[.bool b,.int .i64 i,.int .i64 e,.int .i64 l,.int .i64 n,.int .i64 en] := by
 rcases h with ⟨id,er,_,rfl⟩ | ⟨ls,c,_,_,rfl⟩
 ·exact ⟨_,_,_,_,_,_,rfl⟩
 ·exact ⟨_,_,_,_,_,_,rfl⟩
def ChP (W : World) (nd lf inn fl bk : Int) (s : AS) (e : Ending) (w' : World) : Prop := ∃ v,e = .returned v ∧ s.rep nd lf inn fl bk v ∧ Below W.heap.size W w'
set_option maxHeartbeats 1600000 in
theorem scheck_any {W : World} {A : Nat} {F : Nat → Prop} {s : AS} (hp : PX W A F s) (nd lf inn fl bk : Int) :
  Calls Tryz.prog 17 #[.pointer (some ⟨A,0,none⟩),.agg #[.int .i64 nd,.int .i64 lf,.int .i64 inn,.int .i64 fl,.int .i64 bk]] W (ChP W nd lf inn fl bk s) := by
 obtain ⟨w1,hw1⟩ : ∃ x,x = W.alloc (.cells #[.int .i64 nd,.int .i64 lf,.int .i64 inn,.int .i64 fl,.int .i64 bk] 23) := ⟨_,rfl⟩
 obtain ⟨w2,hw2⟩ : ∃ x,x = w1.alloc (.cells #[.bool false,.int .i64 0,.int .i64 0,.int .i64 0,.int .i64 0,.int .i64 0] 54) := ⟨_,rfl⟩
 have z1 : w1.heap.size = W.heap.size + 1 := by rw [hw1]; simp
 have b1 : Below W.heap.size W w1 := by rw [hw1]; exact (Below.refl _ _).alloc (Nat.le_refl _) _
 have b12 : Below w1.heap.size w1 w2 := by rw [hw2]; exact (Below.refl _ _).alloc (Nat.le_refl _) _
 have g1 : w1.heap[W.heap.size]? = some (.cells #[.int .i64 nd,.int .i64 lf,.int .i64 inn,.int .i64 fl,.int .i64 bk] 23 (0,0)) := by rw [hw1]; exact heap_alloc_new W _
 have G1 : Hid (w2.heap[W.heap.size]? = some (.cells #[.int .i64 nd,.int .i64 lf,.int .i64 inn,.int .i64 fl,.int .i64 bk] 23 (0,0))) := (b12.block _ (by omega)).trans g1
 have G2 : Hid (w2.heap[W.heap.size + 1]? = some (.cells #[.bool false,.int .i64 0,.int .i64 0,.int .i64 0,.int .i64 0,.int .i64 0] 54 (0,0))) := by show _ = _; rw [← z1,hw2]; exact heap_alloc_new w1 _
 have B2 := hide (b1.trans (b12.mono b1.size))
 have HW2 : Hid ((W.alloc (.cells #[.int .i64 nd,.int .i64 lf,.int .i64 inn,.int .i64 fl,.int .i64 bk] 23)).alloc (.cells #[.bool false,.int .i64 0,.int .i64 0,.int .i64 0,.int .i64 0,.int .i64 0] 54) = w2) := by show _ = _; rw [hw2,hw1]
 have HLK := hide (lookAt_any (hp.below B2.out) nd lf inn fl bk)
 obtain ⟨d0,d1,d2,d3,d4⟩ := five_of G1.out
 clear hw1 hw2 z1 b1 b12 g1 hp
 go_enter Tryz.func17,Tryz.ntmps17
 go_upto_region 1 with fail
 rw [HW2.out]
 go_wp2_with fail
 refine HLK.out.mono ?_
 intro e w3 hlk
 have hb3 := hlk.1
 obtain ⟨p,v,rfl,hrep⟩ := lkp_rep hlk
 obtain ⟨b,i,er,l,n,en,rfl⟩ := rep_form hrep
 have HREP := hide hrep
 obtain ⟨w4,hw4⟩ : ∃ x,x = w3.alloc (.cells #[.bool b,.int .i64 i,.int .i64 er,.int .i64 l,.int .i64 n,.int .i64 en] 54) := ⟨_,rfl⟩
 have b4 : Below w3.heap.size w3 w4 := by rw [hw4]; exact (Below.refl _ _).alloc (Nat.le_refl _) _
 have G4 : w4.heap[w3.heap.size]? = some (.cells #[.bool b,.int .i64 i,.int .i64 er,.int .i64 l,.int .i64 n,.int .i64 en] 54 (0,0)) := by rw [hw4]; exact heap_alloc_new w3 _
 have b24 := hb3.trans (b4.mono hb3.size)
 have G24 : Hid (w4.heap[W.heap.size + 1]? = _) := (b24.block _ (lt_of_block G2.out)).trans G2.out
 have B4 := hide (B2.out.trans (b24.mono B2.out.size))
 have HW4 := hide hw4
 obtain ⟨m0,m1,m2,m3,m4,m5⟩ := Six.of G4
 obtain ⟨y0,y1,y2,y3,y4,y5⟩ := Six.of G24.out
 have F5 := fun j => frozen_of G24.out j
 clear hlk hb3 hrep hw4 b4 G4 b24 d0 d1 d2 d3 d4
 go_upto_region 2 with fail
 rw [← HW4.out]
 go_wp2_with fail
 (try simp only [Exit.inBlock,Exit.then])
 have G9 := six_block G24.out (.bool b) (.int .i64 i) (.int .i64 er) (.int .i64 l) (.int .i64 n) (.int .i64 en)
 have U9 : Upd (fun b => b = W.heap.size + 1) w4 (six6 w4 (W.heap.size + 1) (.bool b) (.int .i64 i) (.int .i64 er) (.int .i64 l) (.int .i64 n) (.int .i64 en)) := six_upd _ _ _ _ _ _ _ _ _ rfl
 obtain ⟨q0,q1,q2,q3,q4,q5⟩ := Six.of G9
 show bodyPost _ _ _ _ _ (six6 w4 (W.heap.size + 1) (.bool b) (.int .i64 i) (.int .i64 er) (.int .i64 l) (.int .i64 n) (.int .i64 en))
 generalize six6 w4 (W.heap.size + 1) (.bool b) (.int .i64 i) (.int .i64 er) (.int .i64 l) (.int .i64 n) (.int .i64 en) = w9 at *
 exact bodyPost_ret (v := .agg #[.bool b,.int .i64 i,.int .i64 er,.int .i64 l,.int .i64 n,.int .i64 en]) (by simp [results,Tryz.results17,go_sem,q0,q1,q2,q3,q4,q5]) rfl ⟨_,rfl,HREP.out,B4.out.trans (U9.below B4.out.size (fun k hk e => by omega))⟩
end Go.Proofs.YtljnapejgjffjaaGreat
