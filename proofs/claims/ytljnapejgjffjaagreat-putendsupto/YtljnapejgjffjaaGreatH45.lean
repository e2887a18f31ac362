/- Texts of one's own. -/
import Derived.Test.YtljnapejgjffjaaGreatH42
namespace Go.Proofs.YtljnapejgjffjaaGreat
open Go.RowKit
set_option maxRecDepth 100000
section
variable {W : World} {X : Nat → Prop} {B m N A : Nat} {ga : Option Addr} {gc : Nat} {nd lf inn fl bk : Int} {s : AS} {O : List (List Sp)} {ov : List IL}
set_option maxHeartbeats 1600000 in
theorem sound_any (h : LQ W X B m N A ga gc nd lf inn fl bk s O ov) (k : Nat) (hk : O.length = k + 1) (hzk : k ≤ 65536) (hzl : (O.getD k []).length ≤ 65536) :
  Calls Tryz.prog 122 #[.pointer (some ⟨B,0,none⟩)] W fun e w' => e = .returned (rpt true 0 0 (O.length : Nat) (O.flatten.length : Nat) (wdS (O.getD k []) : Nat)) ∧ Below W.heap.size W w' := by
 obtain ⟨w1,hw1⟩ : ∃ x,x = W.alloc (.cells #[.bool false,.int .i64 0,.int .i64 0,.int .i64 0,.int .i64 0,.int .i64 0] 54) := ⟨_,rfl⟩
 have b1 : Below W.heap.size W w1 := by rw [hw1]; exact (Below.refl _ _).alloc (Nat.le_refl _) _
 have g1 : w1.heap[W.heap.size]? = some (.cells #[.bool false,.int .i64 0,.int .i64 0,.int .i64 0,.int .i64 0,.int .i64 0] 54 (0,0)) := by rw [hw1]; exact heap_alloc_new W _
 have HW1 : Hid (W.alloc (.cells #[.bool false,.int .i64 0,.int .i64 0,.int .i64 0,.int .i64 0,.int .i64 0] 54) = w1) := hw1.symm
 have h1 := h.below b1
 obtain ⟨_,c6,c7⟩ := h1.cells
 obtain ⟨g,hg,hk',_,hok,hos⟩ := h1.row_at (i := k) (by omega)
 have hOk : O.getD k [] = O[k]'(by omega) := by simp [show k < O.length by omega]
 rw [hOk] at hzl ⊢
 have HW : Hid (∀ Y,Below w1.heap.size w1 Y → Calls Tryz.prog 150 #[.pointer (some ⟨B,0,none⟩),ov[k].v] Y fun e w' => e = .returned (.int .i64 (wdS (O[k]'(by omega)) : Nat)) ∧ w' = Y) := fun Y hb => width_sp (h1.below hb) ov[k] (hok.below hb) (O[k]'(by omega)) (fun x hx => List.mem_flatten.2 ⟨_,List.getElem_mem _,hx⟩) hos hzl
 have HL : Hid (∀ Y,Below w1.heap.size w1 Y → Calls Tryz.prog 151 #[.pointer (some ⟨B,0,none⟩)] Y fun e w' => e = .returned ov[k].v ∧ ∃ j,w' = Y.drewN j) := fun Y hb => (lowest_any (h1.below hb) k hk hzk).2
 have hel : (spE O.flatten).length = O.flatten.length := by unfold spE; rw [List.length_map]
 obtain ⟨es,cl,hbm,hes⟩ := h1.im.e
 have hesl : es.size = O.flatten.length := by rw [← hel]; have := congrArg List.length hes; simpa using this
 generalize wdS (O[k]'(by omega)) = R at *
 generalize ov[k] = v at *
 obtain ⟨va,vc,vs⟩ := v
 simp only [IL.v] at HW HL
 generalize vs.length = vl at *
 obtain ⟨on,hon⟩ : ∃ on,O.length = on := ⟨_,rfl⟩
 rw [hon] at c7 ⊢
 obtain ⟨fn,hfn⟩ : ∃ fn,O.flatten.length = fn := ⟨_,rfl⟩
 rw [hfn] at hesl ⊢
 have LEN : ∀ Y ty,Y.heap[m]? = some (.map es cl) → (Builtin.len_ #[175] ty #[.map (some m)]).run Tryz.prog Y = .ok (.int .i64 (fn : Nat)) Y := fun Y ty hb => by
  rw [← hesl]
  simp [Builtin.len_,run_underlying Tryz.underlying175,MapKept.run_getObj_map hb,goInt,Result.andThen]
 have B1 := hide b1
 have G1 := hide g1
 have KC : Hid (∀ Y,Below w1.heap.size w1 Y → Y.cell? ⟨B,6,none⟩ = some (.map (some m)) ∧ Y.cell? ⟨B,7,none⟩ = some (.slice ga on gc) ∧ Y.heap[m]? = some (.map es cl)) := fun Y hb => ⟨(h1.below hb).cells.2.1,by rw [← hon]; exact (h1.below hb).cells.2.2,(hb.block m h1.im.lt).trans hbm⟩
 have hbm' : w1.drew.heap[m]? = some (.map es cl) := hbm
 have hmW : m < W.heap.size := h.im.lt
 have hset : ∀ (Y : World) (j : Nat) (v : Value),(Y.setCell ⟨W.heap.size,j,none⟩ v).heap[m]? = Y.heap[m]? := fun Y j v => Below.heap_setCell _ _ _ _ (by simp only; omega)
 have hSB : Hid (W.heap.size < w1.heap.size) := lt_of_block g1
 have hBW : ¬ B = W.heap.size := by have := lt_of_block h.b; omega
 have hWB : ¬ W.heap.size = B := fun e => hBW e.symm
 clear hw1 b1 g1 h h1 hok hos hOk hel hon hfn hk hzl hg hk' hes hesl
 go_enter Tryz.func122,Tryz.ntmps122
 go_upto_region 1 with fail
 rw [HW1.out]
 go_region_held3 (fun Y => Y.cell? ⟨B,6,none⟩ = some (.map (some m)) ∧ Y.cell? ⟨B,7,none⟩ = some (.slice ga on gc) ∧ Y.heap[m]? = some (.map es cl)) (go_keep) (first
  | (go_at_call 150; refine (HW.out wl BL.out).mono ?_; rintro e w3 ⟨rfl,hw3⟩; obtain rfl := hw3.symm; skip)
  | (go_at_call 151; refine (HL.out w1.drew (below_drew (Below.refl _ _))).mono ?_; rintro e wl ⟨rfl,j,hj⟩; have BL : Hid (Below w1.heap.size w1 wl) := (by rw [hj]; exact below_drewN (below_drew (Below.refl _ _)) j); obtain ⟨k6,k7,k8⟩ := KC.out wl BL.out; have FZ : Hid (wl.heap[W.heap.size]? = some (.cells #[.bool false,.int .i64 0,.int .i64 0,.int .i64 0,.int .i64 0,.int .i64 0] 54 (0,0))) := (BL.out.block _ hSB.out).trans G1.out; obtain ⟨y0,y1,y2,y3,y4,y5⟩ := Six.of FZ.out; have F5 := fun j => frozen_of FZ.out j; clear hj)
  | fail)
 all_goals
  go_wp2_with fail
  (try simp only [Exit.inBlock,Exit.then])
  have G6 := six_block FZ.out (.bool true) (.int .i64 0) (.int .i64 0) (.int .i64 (on : Nat)) (.int .i64 (fn : Nat)) (.int .i64 (R : Nat))
  have U6 : Upd (fun b => b = W.heap.size) wl (six6 wl W.heap.size (.bool true) (.int .i64 0) (.int .i64 0) (.int .i64 (on : Nat)) (.int .i64 (fn : Nat)) (.int .i64 (R : Nat))) := six_upd _ _ _ _ _ _ _ _ _ rfl
  obtain ⟨q0,q1,q2,q3,q4,q5⟩ := Six.of G6
  show bodyPost _ _ _ _ _ (six6 wl W.heap.size (.bool true) (.int .i64 0) (.int .i64 0) (.int .i64 (on : Nat)) (.int .i64 (fn : Nat)) (.int .i64 (R : Nat)))
  have B0L := B1.out.trans (BL.out.mono B1.out.size)
  exact bodyPost_ret (v := rpt true 0 0 (on : Nat) (fn : Nat) (R : Nat)) (by simp [results,Tryz.results122,go_sem,q0,q1,q2,q3,q4,q5,rpt]) rfl ⟨rfl,B0L.trans (U6.below B0L.size (fun k hk e => by omega))⟩
set_option maxHeartbeats 1600000 in
theorem first_any (h : LQ W X B m N A ga gc nd lf inn fl bk s O ov) (k : Nat) (hk : O.length = k + 1) (hzk : k ≤ 65536) (x : Sp) (hx : (O.getD k []).head? = some x) (hlv : 0 < x.n.lv) (hc : 0 < x.n.cs.s.length) :
  Calls Tryz.prog 123 #[.pointer (some ⟨B,0,none⟩)] W fun e w' => e = .returned (.int .i64 (x.n.cs.s.getD 0 0)) ∧ Below W.heap.size W w' := by
 obtain ⟨_,c6,_⟩ := h.cells
 obtain ⟨g,hg,hk',_,hok,hos⟩ := h.row_at (i := k) (by omega)
 have hOk : O.getD k [] = O[k]'(by omega) := by simp [show k < O.length by omega]
 rw [hOk] at hx
 obtain ⟨r,hr⟩ : ∃ r,O[k]'(by omega) = x :: r := by
  cases hc2 : O[k]'(by omega) with
  | nil => rw [hc2] at hx; cases hx
  | cons y r => rw [hc2] at hx; cases hx; exact ⟨r,rfl⟩
 have hmem : x ∈ O.flatten := List.mem_flatten.2 ⟨O[k]'(by omega),List.getElem_mem _,by rw [hr]; exact .head _⟩
 rw [hr] at hos
 obtain ⟨vb,vo,hva,hvc⟩ := hok.r 0 (by rw [hos]; simp)
 rw [hos] at hvc
 simp only [List.map_cons,List.getD_cons_zero,Nat.add_zero] at hvc
 obtain ⟨cb,co,hca,hcc⟩ := (h.sp x hmem).n.c.r 0 hc
 rw [Nat.add_zero] at hcc
 have hform : x.v = .agg #[.int .i64 x.n.lv,.slice x.low.a x.low.s.length x.low.c,.int .i64 (x.w : Nat),.slice x.n.ks.a x.n.ks.L.length x.n.ks.c,.slice (some ⟨cb,co,none⟩) x.n.cs.s.length x.n.cs.c] := by
  unfold Sp.v Sp.kv Sp.cv
  rw [if_pos hlv,if_pos hlv]
  simp only [TL.v,IL.v,Tx.v,hca]
 have HL : Hid (Calls Tryz.prog 151 #[.pointer (some ⟨B,0,none⟩)] W.drew fun e w' => e = .returned ov[k].v ∧ ∃ j,w' = W.drew.drewN j) := (lowest_any (h.below (below_drew (Below.refl _ _))) k hk hzk).2
 have hovl : ov[k].v = .slice (some ⟨vb,vo,none⟩) (r.length + 1) ov[k].c := by
  unfold IL.v
  rw [hva,hos]
  simp
 rw [hovl] at HL
 have HLK : Hid (∀ Y,Below W.heap.size W Y → (Instr.lookup 175 (.map (some m)) (.int .i64 x.id) false).run Tryz.prog Y = .ok (.agg #[.int .i64 x.n.lv,.slice x.low.a x.low.s.length x.low.c,.int .i64 (x.w : Nat),.slice x.n.ks.a x.n.ks.L.length x.n.ks.c,.slice (some ⟨cb,co,none⟩) x.n.cs.s.length x.n.cs.c]) Y) := fun Y hb => by
  have := (h.below hb).im.look (P := Tryz.prog) (t := 175) Tryz.underlying175 Tryz.underlying3 (zero_spot2 Y) x.id false
  rw [h.at hmem,hform] at this
  simpa using this
 have KC : Hid (∀ Y,Below W.heap.size W Y → Y.cell? ⟨B,6,none⟩ = some (.map (some m)) ∧ Y.cell? ⟨vb,vo,none⟩ = some (.int .i64 x.id) ∧ Y.cell? ⟨cb,co,none⟩ = some (.int .i64 (x.n.cs.s.getD 0 0))) := fun Y hb => ⟨(h.below hb).cells.2.1,(hb.cell (p := ⟨vb,vo,none⟩) (World.block_lt_of_cell? W ⟨vb,vo,none⟩ hvc)).trans hvc,(hb.cell (p := ⟨cb,co,none⟩) (World.block_lt_of_cell? W ⟨cb,co,none⟩ hcc)).trans hcc⟩
 clear h hok hos hva hca hform hx hr hmem hovl hOk hk hg
 generalize ov[k].c = oc at *
 generalize r.length = rl at *
 generalize x.n.cs.s.getD 0 0 = c0 at *
 generalize x.n.cs.c = cc at *
 generalize x.n.cs.s.length = cl at *
 generalize x.n.ks.L.length = kl at *
 generalize x.n.ks.c = kc at *
 generalize x.n.ks.a = ka at *
 generalize x.low.s.length = ll at *
 generalize x.low.c = lcc at *
 generalize x.low.a = la at *
 generalize x.n.lv = xlv at *
 generalize x.w = xw at *
 generalize x.id = xid at *
 obtain ⟨rn,hrn⟩ : ∃ rn,rl + 1 = rn := ⟨_,rfl⟩
 rw [hrn] at HL
 have i1 : (0 : Int) < (rn : Int) := by omega
 have i2 : 0 < rn := by omega
 have i3 : (0 : Int) < (cl : Int) := by omega
 have FLD : ∀ w,(Instr.field 219 (.agg #[.int .i64 xlv,.slice la ll lcc,.int .i64 (xw : Nat),.slice ka kl kc,.slice (some ⟨cb,co,none⟩) cl cc]) 4).run Tryz.prog w = .ok (.slice (some ⟨cb,co,none⟩) cl cc) w := fun w => by kernel_rfl
 clear hrn hlv
 go_enter Tryz.func123,Tryz.ntmps123
 go_wp2_with fail
 go_region_held3 (fun Y => Y.cell? ⟨B,6,none⟩ = some (.map (some m)) ∧ Y.cell? ⟨vb,vo,none⟩ = some (.int .i64 xid) ∧ Y.cell? ⟨cb,co,none⟩ = some (.int .i64 c0)) (go_keep) (first
  | (go_at_call 151; refine HL.out.mono ?_; rintro e wl ⟨rfl,j,hj⟩; have BL : Hid (Below W.heap.size W wl) := (by rw [hj]; exact below_drewN (below_drew (Below.refl _ _)) j); obtain ⟨k6,k7,k8⟩ := KC.out wl BL.out; have LOOK := HLK.out wl BL.out; clear hj)
  | fail)
 go_wp2_with fail
 go_ret
 exact ⟨rfl,BL.out⟩
end
end Go.Proofs.YtljnapejgjffjaaGreat
