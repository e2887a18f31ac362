/- shape: lookAt, Check. -/
import Derived.Test.YtibifkindpgkgaaGreatG46
import Derived.Carry
import Derived.Test.YtibifkindpgkgaaGreatG12
import Derived.Test.YtibifkindpgkgaaGreatG30
import Derived.Test.YtibifkindpgkgaaGreatG24
namespace Go.Proofs.YtibifkindpgkgaaGreat
open Go.RowKit
set_option maxRecDepth 100000

/-- What lookAt gives. -/
def LkP (W : World) (A : Nat) (nd lf inn fl bk : Int) (s : AS) (e : Ending) (w' : World) : Prop :=
  Below W.heap.size W w' ∧ ((∃ id er v, s.look nd lf inn fl bk = .inl (id, er) ∧ e = .returned (.tuple #[.pointer v, rpt false id er 0 0 0])) ∨
    ∃ B m N ga gc O ov c, s.look nd lf inn fl bk = .inr (chQ O) ∧ O.getLast? = some c ∧ e = .returned (.tuple #[.pointer (some ⟨B, 0, none⟩), rpt true 0 0 (O.length : Nat) (O.flatten.length : Nat) (wdS c : Nat)]) ∧ LQ w' (fun _ => False) B m N A ga gc nd lf inn fl bk s O ov ∧ Lvs s (fun p => nchkE p nd lf inn fl bk) O (-1))
theorem rpt_form (b : Bool) (id er lv no en : Int) : rpt b id er lv no en = .agg #[.bool b, .int .i64 id, .int .i64 er, .int .i64 lv, .int .i64 no, .int .i64 en] := rfl
set_option maxRecDepth 100000 in
set_option maxHeartbeats 3200000 in
theorem lookAt_any {W : World} {A : Nat} {F : Nat → Prop} {s : AS} (hp : PX W A F s) (nd lf inn fl bk : Int) :
    Calls Tryz.prog 55 #[.pointer (some ⟨A, 0, none⟩), .agg #[.int .i64 nd, .int .i64 lf, .int .i64 inn, .int .i64 fl, .int .i64 bk]] W (LkP W A nd lf inn fl bk s) := by
  obtain ⟨w1, hw1⟩ : ∃ x, x = W.alloc (.cells #[.int .i64 nd, .int .i64 lf, .int .i64 inn, .int .i64 fl, .int .i64 bk] 24) := ⟨_, rfl⟩
  obtain ⟨w2, hw2⟩ : ∃ x, x = w1.alloc (.cells #[.bool false, .int .i64 0, .int .i64 0, .int .i64 0, .int .i64 0, .int .i64 0] 45) := ⟨_, rfl⟩
  have z1 : w1.heap.size = W.heap.size + 1 := by rw [hw1]; simp
  have b1 : Below W.heap.size W w1 := by rw [hw1]; exact (Below.refl _ _).alloc (Nat.le_refl _) _
  have b12 : Below w1.heap.size w1 w2 := by rw [hw2]; exact (Below.refl _ _).alloc (Nat.le_refl _) _
  have g1 : w1.heap[W.heap.size]? = some (.cells #[.int .i64 nd, .int .i64 lf, .int .i64 inn, .int .i64 fl, .int .i64 bk] 24 (0, 0)) := by rw [hw1]; exact heap_alloc_new W _
  have G1 : Hid (w2.heap[W.heap.size]? = some (.cells #[.int .i64 nd, .int .i64 lf, .int .i64 inn, .int .i64 fl, .int .i64 bk] 24 (0, 0))) := (b12.block _ (by omega)).trans g1
  have G2 : Hid (w2.heap[W.heap.size + 1]? = some (.cells #[.bool false, .int .i64 0, .int .i64 0, .int .i64 0, .int .i64 0, .int .i64 0] 45 (0, 0))) := by show _ = _; rw [← z1, hw2]; exact heap_alloc_new w1 _
  have B2 := hide (b1.trans (b12.mono b1.size))
  have HW2 : Hid ((W.alloc (.cells #[.int .i64 nd, .int .i64 lf, .int .i64 inn, .int .i64 fl, .int .i64 bk] 24)).alloc (.cells #[.bool false, .int .i64 0, .int .i64 0, .int .i64 0, .int .i64 0, .int .i64 0] 45) = w2) := by show _ = _; rw [hw2, hw1]
  have HP := hide hp
  have HCG := hide (config_any nd lf inn fl bk w2)
  obtain ⟨d0, d1, d2, d3, d4⟩ := five_of G1.out
  clear hw1 hw2 z1 b1 b12 g1 hp
  by_cases hcf : cfgOk nd lf inn fl bk
  · rw [show cfgE nd lf inn fl bk = 0 from if_pos hcf] at HCG
    have HCF := hide hcf
    clear hcf
    go_enter Tryz.func55, Tryz.ntmps55
    go_upto_region 1 with fail
    rw [HW2.out]
    go_wp2_with fail
    refine HCG.out.mono ?_
    rintro e w3 ⟨rfl, hb3⟩
    have B3 := hide (B2.out.trans (hb3.mono B2.out.size))
    have B23 := hide hb3
    have HHL := hide (px_held (HP.out.below B3.out))
    clear hb3 d0 d1 d2 d3 d4
    go_wp2_with fail
    refine HHL.out.mono ?_
    rintro e w4 ⟨v4, rfl, hv4, hb4⟩
    have B4 := hide (B3.out.trans (hb4.mono B3.out.size))
    have B24 := hide (B23.out.trans (hb4.mono B23.out.size))
    have G14 : Hid (w4.heap[W.heap.size]? = _) := (B24.out.block _ (lt_of_block G1.out)).trans G1.out
    have G24 : Hid (w4.heap[W.heap.size + 1]? = _) := (B24.out.block _ (lt_of_block G2.out)).trans G2.out
    cases hh : s.held with
    | nil =>
      rw [hh] at hv4
      obtain ⟨va, vc, rfl⟩ : ∃ va vc, v4 = .slice va 0 vc := by
        rcases hv4.2 with ⟨h, _⟩ | ⟨g, cap, cu, h, _⟩
        · exact ⟨_, _, h⟩
        · exact ⟨_, _, h⟩
      have HR : Hid (s.look nd lf inn fl bk = s.lvs (fun p => nchkE p nd lf inn fl bk) (s.sl.length + 1) (s.rd s.root).lv s.root []) := by
        show _ = _
        unfold AS.look
        rw [if_pos HCF.out, hh]
      obtain ⟨w5, hw5⟩ : ∃ x, x = w4.alloc (.map #[] 0) := ⟨_, rfl⟩
      obtain ⟨w6, hw6⟩ : ∃ x, x = w5.alloc (.cells (lookC A nd lf inn fl bk w4.heap.size (.slice none 0 0)) 178) := ⟨_, rfl⟩
      have z5 : w5.heap.size = w4.heap.size + 1 := by rw [hw5]; simp
      have b5 : Below w4.heap.size w4 w5 := by rw [hw5]; exact (Below.refl _ _).alloc (Nat.le_refl _) _
      have b56 : Below w5.heap.size w5 w6 := by rw [hw6]; exact (Below.refl _ _).alloc (Nat.le_refl _) _
      have b6 := b5.trans (b56.mono b5.size)
      have i5 : IM w5 w4.heap.size [] := by rw [hw5]; exact IM.new w4
      have i6 : IM w6 w4.heap.size [] := i5.below b56
      have g6 : w6.heap[w4.heap.size + 1]? = some (.cells (lookC A nd lf inn fl bk w4.heap.size (.slice none 0 0)) 178 (0, 0)) := by rw [← z5, hw6]; exact heap_alloc_new w5 _
      have B6 := hide (B4.out.trans (b6.mono B4.out.size))
      have hW4 : W.heap.size + 1 < w4.heap.size := lt_of_block G24.out
      have LQ6 : Hid (LQ w6 (fun k => k = W.heap.size + 1) (w4.heap.size + 1) w4.heap.size w4.heap.size A none 0 nd lf inn fl bk s [] []) :=
        ⟨g6, i6, World.ownsRow_nil _ _ _ _, ⟨fun v hv => (by cases hv), fun v hv => (by cases hv), rfl⟩, fun x hx => (by cases hx), fun k hk => ⟨by have := b6.size; omega, by
          rintro (e | e | ⟨y, e, _⟩ | ⟨y, e, _⟩)
          · omega
          · omega
          · cases e
          · cases e⟩, by omega, Nat.le_refl _, by omega, fun y e => (by cases e)⟩
      have HDS := hide (descend_any LQ6.out (HP.out.below B6.out) (fun k hk => by have := HP.out.lt k hk; omega) b6.size HCF.out)
      have HW6 : Hid ((w4.alloc (.map #[] 0)).alloc (.cells #[.pointer (some ⟨A, 0, none⟩), .int .i64 nd, .int .i64 lf, .int .i64 inn, .int .i64 fl, .int .i64 bk, .map (some w4.heap.size), .slice none 0 0] 178) = w6) := by show _ = _; rw [hw6, hw5]; rfl
      rw [← HR.out] at HDS
      have B46 := hide b6
      have HW4 := hide hW4
      obtain ⟨d0, d1, d2, d3, d4⟩ := five_of G14.out
      have MM := fun t => run_makeMap (P := Tryz.prog) t w4
      clear hh hv4 hb4 hw5 hw6 z5 b5 b56 b6 i5 i6 g6 hW4
      go_upto_region 7 with fail
      rw [HW6.out]
      go_wp2_with fail
      refine HDS.out.mono ?_
      rintro e w7 ⟨hb7, hcase⟩
      have G27 : Hid (w7.heap[W.heap.size + 1]? = some (.cells #[.bool false, .int .i64 0, .int .i64 0, .int .i64 0, .int .i64 0, .int .i64 0] 45 (0, 0))) := (hb7.block _ HW4.out).trans ((B46.out.block _ HW4.out).trans G24.out)
      have B7 : Hid (Below W.heap.size W w7) := B6.out.trans (hb7.mono (by have := HW4.out; omega))
      obtain ⟨y0, y1, y2, y3, y4, y5⟩ := Six.of G27.out
      have F5 := fun j => frozen_of G27.out j
      clear hb7 d0 d1 d2 d3 d4 MM
      rcases hcase with ⟨id, er, hR, rfl⟩ | ⟨ga, gc, O, ov, c, hR, hlast, rfl, hlq, hlv⟩
      · have HR2 := hide hR
        clear hR
        simp only [rpt_form]
        go_wp2_with fail
        (try simp only [Exit.inBlock, Exit.then])
        have G9 := six_block G27.out (.bool false) (.int .i64 id) (.int .i64 er) (.int .i64 0) (.int .i64 0) (.int .i64 0)
        have U9 : Upd (fun b => b = W.heap.size + 1) w7 (six6 w7 (W.heap.size + 1) (.bool false) (.int .i64 id) (.int .i64 er) (.int .i64 0) (.int .i64 0) (.int .i64 0)) := six_upd _ _ _ _ _ _ _ _ _ rfl
        obtain ⟨q0, q1, q2, q3, q4, q5⟩ := Six.of G9
        show bodyPost _ _ _ _ _ (six6 w7 (W.heap.size + 1) (.bool false) (.int .i64 id) (.int .i64 er) (.int .i64 0) (.int .i64 0) (.int .i64 0))
        generalize six6 w7 (W.heap.size + 1) (.bool false) (.int .i64 id) (.int .i64 er) (.int .i64 0) (.int .i64 0) (.int .i64 0) = w9 at *
        refine bodyPost_ret (v := .tuple #[.pointer (some ⟨w4.heap.size + 1, 0, none⟩), .agg #[.bool false, .int .i64 id, .int .i64 er, .int .i64 0, .int .i64 0, .int .i64 0]]) (by simp [results, Tryz.results55, go_sem, q0, q1, q2, q3, q4, q5]) rfl ?_
        have BB : Below W.heap.size W w9 := B7.out.trans (U9.below B7.out.size (fun k hk e => by omega))
        exact ⟨BB, .inl ⟨id, er, _, HR2.out, rfl⟩⟩
      · have HR2 := hide (And.intro hR hlast)
        have HLQ := hide hlq
        have HLV := hide hlv
        obtain ⟨ol, hol⟩ : ∃ ol, O.length = ol := ⟨_, rfl⟩
        obtain ⟨fo, hfo⟩ : ∃ fo, O.flatten.length = fo := ⟨_, rfl⟩
        obtain ⟨WD, hWD⟩ : ∃ WD, wdS c = WD := ⟨_, rfl⟩
        rw [hol, hfo, hWD]
        have HOL := hide (And.intro hol (And.intro hfo hWD))
        clear hR hlast hlq hlv hol hfo hWD
        simp only [rpt_form]
        go_wp2_with fail
        (try simp only [Exit.inBlock, Exit.then])
        have G9 := six_block G27.out (.bool true) (.int .i64 0) (.int .i64 0) (.int .i64 (ol : Nat)) (.int .i64 (fo : Nat)) (.int .i64 (WD : Nat))
        have U9 : Upd (fun b => b = W.heap.size + 1) w7 (six6 w7 (W.heap.size + 1) (.bool true) (.int .i64 0) (.int .i64 0) (.int .i64 (ol : Nat)) (.int .i64 (fo : Nat)) (.int .i64 (WD : Nat))) := six_upd _ _ _ _ _ _ _ _ _ rfl
        obtain ⟨q0, q1, q2, q3, q4, q5⟩ := Six.of G9
        show bodyPost _ _ _ _ _ (six6 w7 (W.heap.size + 1) (.bool true) (.int .i64 0) (.int .i64 0) (.int .i64 (ol : Nat)) (.int .i64 (fo : Nat)) (.int .i64 (WD : Nat)))
        generalize six6 w7 (W.heap.size + 1) (.bool true) (.int .i64 0) (.int .i64 0) (.int .i64 (ol : Nat)) (.int .i64 (fo : Nat)) (.int .i64 (WD : Nat)) = w9 at *
        refine bodyPost_ret (v := .tuple #[.pointer (some ⟨w4.heap.size + 1, 0, none⟩), .agg #[.bool true, .int .i64 0, .int .i64 0, .int .i64 (ol : Nat), .int .i64 (fo : Nat), .int .i64 (WD : Nat)]]) (by simp [results, Tryz.results55, go_sem, q0, q1, q2, q3, q4, q5]) rfl ?_
        have BB : Below W.heap.size W w9 := B7.out.trans (U9.below B7.out.size (fun k hk e => by omega))
        exact ⟨BB, .inr ⟨_, _, _, _, _, O, _, c, HR2.out.1, HR2.out.2, by rw [HOL.out.1, HOL.out.2.1, HOL.out.2.2]; rfl, (HLQ.out.other U9).more (Below.refl _ _) (fun k hk => hk.elim) (fun k hk => ((HLQ.out.other U9).mut_lt k hk).2), HLV.out⟩⟩
    | cons hd rest =>
      rw [hh] at hv4
      obtain ⟨vg, vc, rfl⟩ : ∃ vg vc, v4 = .slice (some ⟨vg, 0, none⟩) (rest.length + 1) vc := by
        rcases hv4.2 with ⟨_, h⟩ | ⟨g, cap, cu, h, _⟩
        · simp at h
        · exact ⟨_, _, h⟩
      have hc0 : w4.cell? ⟨vg, 0, none⟩ = some (.int .i64 hd) := by
        have := hv4.cells (g := vg) rfl 0 (.int .i64 hd) rfl
        rw [Addr.add_lit] at this
        exact this
      have HR : Hid (s.look nd lf inn fl bk = .inl (hd, 102)) := by
        show _ = _
        unfold AS.look
        rw [if_pos HCF.out, hh]
      obtain ⟨rl, hrl⟩ : ∃ rl, rest.length + 1 = rl := ⟨_, rfl⟩
      rw [hrl]
      have hp1 : (0 : Int) < (rl : Int) := by omega
      have hp2 : 0 < rl := by omega
      have HWR := hide (swrong_any hd 102 w4)
      clear hh hv4 hb4 hrl
      go_wp2_with fail
      refine HWR.out.mono ?_
      rintro e w7 ⟨rfl, hb7⟩
      have G27 : Hid (w7.heap[W.heap.size + 1]? = some (.cells #[.bool false, .int .i64 0, .int .i64 0, .int .i64 0, .int .i64 0, .int .i64 0] 45 (0, 0))) := (hb7.block _ (lt_of_block G24.out)).trans G24.out
      have B7 : Hid (Below W.heap.size W w7) := B4.out.trans (hb7.mono B4.out.size)
      obtain ⟨y0, y1, y2, y3, y4, y5⟩ := Six.of G27.out
      have F5 := fun j => frozen_of G27.out j
      simp only [rpt_form]
      clear hb7
      go_wp2_with fail
      (try simp only [Exit.inBlock, Exit.then])
      have G9 := six_block G27.out (.bool false) (.int .i64 hd) (.int .i64 102) (.int .i64 0) (.int .i64 0) (.int .i64 0)
      have U9 : Upd (fun b => b = W.heap.size + 1) w7 (six6 w7 (W.heap.size + 1) (.bool false) (.int .i64 hd) (.int .i64 102) (.int .i64 0) (.int .i64 0) (.int .i64 0)) := six_upd _ _ _ _ _ _ _ _ _ rfl
      obtain ⟨q0, q1, q2, q3, q4, q5⟩ := Six.of G9
      show bodyPost _ _ _ _ _ (six6 w7 (W.heap.size + 1) (.bool false) (.int .i64 hd) (.int .i64 102) (.int .i64 0) (.int .i64 0) (.int .i64 0))
      generalize six6 w7 (W.heap.size + 1) (.bool false) (.int .i64 hd) (.int .i64 102) (.int .i64 0) (.int .i64 0) (.int .i64 0) = w9 at *
      refine bodyPost_ret (v := .tuple #[.pointer (none), .agg #[.bool false, .int .i64 hd, .int .i64 102, .int .i64 0, .int .i64 0, .int .i64 0]]) (by simp [results, Tryz.results55, go_sem, q0, q1, q2, q3, q4, q5]) rfl ?_
      have BB : Below W.heap.size W w9 := B7.out.trans (U9.below B7.out.size (fun k hk e => by omega))
      exact ⟨BB, .inl ⟨hd, 102, _, HR.out, rfl⟩⟩
  · rw [show cfgE nd lf inn fl bk = 1 from if_neg hcf] at HCG
    have HR : Hid (s.look nd lf inn fl bk = .inl (0, 1)) := if_neg hcf
    clear hcf
    go_enter Tryz.func55, Tryz.ntmps55
    go_upto_region 1 with fail
    rw [HW2.out]
    go_wp2_with fail
    refine HCG.out.mono ?_
    rintro e w3 ⟨rfl, hb3⟩
    have B3 := hide (B2.out.trans (hb3.mono B2.out.size))
    have HWR := hide (swrong_any 0 1 w3)
    have G23 : Hid (w3.heap[W.heap.size + 1]? = _) := (hb3.block _ (lt_of_block G2.out)).trans G2.out
    clear hb3 d0 d1 d2 d3 d4
    go_wp2_with fail
    refine HWR.out.mono ?_
    rintro e w7 ⟨rfl, hb7⟩
    have G27 : Hid (w7.heap[W.heap.size + 1]? = some (.cells #[.bool false, .int .i64 0, .int .i64 0, .int .i64 0, .int .i64 0, .int .i64 0] 45 (0, 0))) := (hb7.block _ (lt_of_block G23.out)).trans G23.out
    have B7 : Hid (Below W.heap.size W w7) := B3.out.trans (hb7.mono B3.out.size)
    obtain ⟨y0, y1, y2, y3, y4, y5⟩ := Six.of G27.out
    have F5 := fun j => frozen_of G27.out j
    simp only [rpt_form]
    clear hb7
    go_wp2_with fail
    (try simp only [Exit.inBlock, Exit.then])
    have G9 := six_block G27.out (.bool false) (.int .i64 0) (.int .i64 1) (.int .i64 0) (.int .i64 0) (.int .i64 0)
    have U9 : Upd (fun b => b = W.heap.size + 1) w7 (six6 w7 (W.heap.size + 1) (.bool false) (.int .i64 0) (.int .i64 1) (.int .i64 0) (.int .i64 0) (.int .i64 0)) := six_upd _ _ _ _ _ _ _ _ _ rfl
    obtain ⟨q0, q1, q2, q3, q4, q5⟩ := Six.of G9
    show bodyPost _ _ _ _ _ (six6 w7 (W.heap.size + 1) (.bool false) (.int .i64 0) (.int .i64 1) (.int .i64 0) (.int .i64 0) (.int .i64 0))
    generalize six6 w7 (W.heap.size + 1) (.bool false) (.int .i64 0) (.int .i64 1) (.int .i64 0) (.int .i64 0) (.int .i64 0) = w9 at *
    refine bodyPost_ret (v := .tuple #[.pointer (none), .agg #[.bool false, .int .i64 0, .int .i64 1, .int .i64 0, .int .i64 0, .int .i64 0]]) (by simp [results, Tryz.results55, go_sem, q0, q1, q2, q3, q4, q5]) rfl ?_
    have BB : Below W.heap.size W w9 := B7.out.trans (U9.below B7.out.size (fun k hk e => by omega))
    exact ⟨BB, .inl ⟨0, 1, _, HR.out, rfl⟩⟩
end Go.Proofs.YtibifkindpgkgaaGreat

namespace Go.Proofs.YtibifkindpgkgaaGreat
open Go.RowKit
set_option maxRecDepth 100000

def fullP (c : List Sp) (k : Int) : Prop := ∀ i (hi : i < c.length), i + 1 < c.length → (c[i].w : Int) = k
instance (c : List Sp) (k : Int) : Decidable (fullP c k) := by unfold fullP; exact inferInstance
theorem elemInts : Tryz.prog.elem 57 = 3 := by kernel_rfl
theorem sizeInt (W : World) : (sizeOf 3).run Tryz.prog W = .ok 1 W := by
  obtain ⟨i0, hi, hz0, hz1, hz2⟩ := info_parts infoI
  simp [sizeOf, typeInfo, hi, hz1]
theorem undInts : Tryz.prog.underlying 57 = some (.slice (Tryz.prog.elem 57)) := by rw [elemInts]; exact Tryz.underlying57
theorem run_uptoI (k : Option Addr) (lk ck m : Nat) (hm : m ≤ ck) (kh : IntKind) (W : World) : (Instr.slice 57 (.slice k lk ck) none (some (.int kh (m : Int))) none).run Tryz.prog W = .ok (.slice k m ck) W := by
  rw [run_slice_h (P := Tryz.prog) W 57 k lk ck undInts kh (m : Int) (by omega) (by omega), elemInts, sizeInt]
  cases k <;> simp [Result.andThen, sliced, Addr.add]
theorem elemIntss : Tryz.prog.elem 176 = 57 := by kernel_rfl
theorem sizeInts (W : World) : (sizeOf 57).run Tryz.prog W = .ok 1 W := by
  obtain ⟨i0, hi, hz0, hz1, hz2⟩ := info_parts infoIS
  simp [sizeOf, typeInfo, hi, hz1]
theorem undIntss : Tryz.prog.underlying 176 = some (.slice (Tryz.prog.elem 176)) := by rw [elemIntss]; exact Tryz.underlying176
theorem run_fromS (k : Option Addr) (lk ck n : Nat) (hn : n ≤ lk) (W : World) : (Instr.slice 176 (.slice k lk ck) (some (.int .i64 (n : Int))) none none).run Tryz.prog W = .ok (.slice (cutAt k n ck) (lk - n) (ck - n)) W := by
  rw [run_slice_l (P := Tryz.prog) W 176 k lk ck undIntss .i64 (n : Int) (by omega) (by omega), elemIntss, sizeInts]
  simp [Result.andThen, sliced, cutAt]
section
variable {W : World} {X : Nat → Prop} {B m N A : Nat} {ga : Option Addr} {gc : Nat} {nd lf inn fl bk : Int} {s : AS} {O : List (List Sp)} {ov : List IL}
set_option maxRecDepth 100000 in
set_option maxHeartbeats 1600000 in
theorem full_any (h : LQ W X B m N A ga gc nd lf inn fl bk s O ov) (v : IL) (hv : v.Ok W) (c : List Sp) (hc : ∀ x ∈ c, x ∈ O.flatten) (hs : v.s = c.map (·.id)) (hz : c.length ≤ 65536) (hne : 0 < c.length) (k : Int) :
    Calls Tryz.prog 125 #[.pointer (some ⟨B, 0, none⟩), v.v, .int .i64 k] W fun e w' => e = .returned (.bool (decide (fullP c k))) ∧ w' = W := by
  obtain ⟨_, c6, _⟩ := h.cells
  have HH := hide h
  have HC := hide hc
  obtain ⟨va, vc, vs⟩ := v
  simp only at hs
  have hlen : vs.length = c.length := by rw [hs, List.length_map]
  have hvlc := hv.lc
  simp only at hvlc
  have HV := hide hv
  have HS := hide hs
  simp only [IL.v]
  obtain ⟨l, hl⟩ : ∃ l, vs.length = l + 1 := ⟨vs.length - 1, by omega⟩
  rw [hl] at hlen hvlc ⊢
  have HL := hide hl
  have HLC := hide hlen.symm
  have hlz : l ≤ 65536 := by omega
  obtain ⟨D, hD⟩ : ∃ D, D = decide (fullP c k) := ⟨_, rfl⟩
  rw [← hD]
  have HD : Hid (D = true ↔ fullP c k) := by show _ ↔ _; rw [hD, decide_eq_true_iff]
  obtain ⟨q, hq⟩ : ∃ q, l + 1 = q := ⟨_, rfl⟩
  rw [hq] at hvlc ⊢
  have SL : ∀ w, (Instr.slice 57 (.slice va q vc) none (some (.int .i64 (l : Int))) none).run Tryz.prog w = .ok (.slice va l vc) w := fun w => run_uptoI va q vc l (by omega) .i64 w
  have x1 : IntKind.i64.wrap ((q : Int) - 1) = (l : Int) := by unfold IntKind.wrap; simp [IntKind.bits, IntKind.signed]; omega
  have HQ := hide hq
  clear h hc hv hs hl hlen hz hD hne hq
  go_enter Tryz.func125, Tryz.ntmps125
  go_wp2_with fail
  go_loopw [15] (fun q15 wr => ∃ i : Nat, i ≤ l ∧ q15 = .int .i64 (i : Int) ∧ Hid (∀ j (hj : j < c.length), j < i → (c[j].w : Int) = k) ∧ W = wr) (fun q15 _ => l - (intOf q15).toNat)
  case atStart => exact ⟨0, Nat.zero_le _, rfl, fun j _ hj => absurd hj (Nat.not_lt_zero j), rfl⟩
  case round =>
    obtain ⟨i, hi, rfl, HA, rfl⟩ := hrel
    by_cases hlt : i < l
    · have j1 : (i : Int) < (l : Int) := by omega
      have hic : i < c.length := by rw [HLC.out]; omega
      obtain ⟨b, o, hva, hcell⟩ := HV.out.r i (by simp only; rw [HL.out]; omega)
      simp only at hva hcell
      subst hva
      have hgi : vs.getD i 0 = c[i].id := by rw [HS.out]; simp [hic]
      rw [hgi] at hcell
      have LOOK := HH.out.im.look (P := Tryz.prog) (t := 175) Tryz.underlying175 Tryz.underlying3 (zero_spot2 W) c[i].id false
      rw [HH.out.at (HC.out c[i] (List.getElem_mem hic))] at LOOK
      obtain ⟨fa, fl', fc, fka, fkl, fkc, fca, fcl, fcc, hform⟩ := c[i].form2
      rw [hform] at LOOK
      simp only [Option.getD_some, Bool.false_eq_true, if_false] at LOOK
      obtain ⟨xw, hxw⟩ : ∃ xw, c[i].w = xw := ⟨_, rfl⟩
      rw [hxw] at LOOK
      have HXW := hide hxw
      generalize c[i].id = xid at *
      generalize c[i].n.lv = xlv at *
      have FLD : ∀ w, (Instr.field 199 (.agg #[.int .i64 xlv, .slice fa fl' fc, .int .i64 (xw : Nat), .slice fka fkl fkc, .slice fca fcl fcc]) 2).run Tryz.prog w = .ok (.int .i64 (xw : Nat)) w := fun w => by kernel_rfl
      clear hform hgi hxw
      by_cases hk : (xw : Int) = k
      · subst hk
        go_wp2_with fail
        go_roundw
        case rel =>
          refine ⟨i + 1, by omega, by go_num, fun j hj hji => ?_, trivial⟩
          rcases Nat.lt_or_ge j i with h | h
          · exact HA.out j hj h
          · obtain rfl : j = i := by omega
            rw [HXW.out]
        case measure => simp [intOf]; omega
      · have hF : D = false := by
          cases D with
          | false => rfl
          | true => have := (HD.out.1 rfl) i hic (by have := HLC.out; omega); rw [HXW.out] at this; exact absurd this hk
        subst hF
        have hk1 : ((xw : Int) == k) = false := by rw [beq_eq_false_iff_ne]; exact hk
        go_wp2_with fail
        go_ret
        exact ⟨rfl, rfl⟩
    · have j1 : ¬ (i : Int) < (l : Int) := by omega
      have hT : D = true := HD.out.2 (fun j hj hj2 => HA.out j hj (by have := HLC.out; omega))
      subst hT
      obtain rfl : i = l := by omega
      go_wp2_with fail
      go_ret
      exact ⟨rfl, rfl⟩
end
end Go.Proofs.YtibifkindpgkgaaGreat

namespace Go.Proofs.YtibifkindpgkgaaGreat
open Go.RowKit
set_option maxRecDepth 100000

section
variable {W : World} {X : Nat → Prop} {B m N A : Nat} {ga : Option Addr} {gc : Nat} {nd lf inn fl bk : Int} {s : AS} {O : List (List Sp)} {ov : List IL}
def topP (O : List (List Sp)) : Prop := (O.getD 0 []).length = 1 ∧ (O.length = 1 ∨ 2 ≤ wdS (O.getD 0 []))
instance (O : List (List Sp)) : Decidable (topP O) := by unfold topP; exact inferInstance
set_option maxRecDepth 100000 in
set_option maxHeartbeats 1600000 in
theorem top_any (h : LQ W X B m N A ga gc nd lf inn fl bk s O ov) (hne : 0 < O.length) (hz : (O.getD 0 []).length ≤ 65536) :
    Calls Tryz.prog 94 #[.pointer (some ⟨B, 0, none⟩)] W fun e w' => e = .returned (.bool (decide (topP O))) ∧ w' = W := by
  obtain ⟨_, _, c7⟩ := h.cells
  obtain ⟨g, rfl, hk', hc0, hok, hos⟩ := h.row_at (i := 0) hne
  have hO0 : O.getD 0 [] = O[0] := by simp [hne]
  have HW := hide (width_sp h ov[0] hok O[0] (fun x hx => List.mem_flatten.2 ⟨_, List.getElem_mem _, hx⟩) hos (by rw [← hO0]; exact hz))
  have hl0 : ov[0].s.length = O[0].length := by rw [hos, List.length_map]
  obtain ⟨D, hD⟩ : ∃ D, D = decide (topP O) := ⟨_, rfl⟩
  rw [← hD]
  have HD : Hid (D = true ↔ O[0].length = 1 ∧ (O.length = 1 ∨ 2 ≤ wdS O[0])) := by show _ ↔ _; rw [hD, decide_eq_true_iff]; unfold topP; rw [hO0]
  generalize ov[0] = v at *
  obtain ⟨va, vc, vs⟩ := v
  simp only [IL.v] at hc0 HW
  simp only at hl0
  rw [hl0] at hc0 HW
  have HNE : Hid (0 < O.length) := hne
  clear h hok hos hO0 hD hl0 hz
  generalize wdS O[0] = wd at *
  generalize O[0].length = l at *
  clear hk'
  have i0 : 0 < O.length := HNE.out
  clear hne HNE
  generalize O.length = q at *
  have i1 : (0 : Int) < (q : Int) := by omega
  by_cases h1 : l = 1
  · subst h1
    by_cases h2 : q = 1
    · subst h2
      have hT : D = true := HD.out.2 ⟨rfl, .inl rfl⟩
      subst hT
      go_enter Tryz.func94, Tryz.ntmps94
      go_wp2_with fail
      go_ret
      exact ⟨rfl, rfl⟩
    · have hT : D = decide ((2 : Int) ≤ (wd : Int)) := by
        cases hd : decide ((2 : Int) ≤ (wd : Int)) with
        | true => exact HD.out.2 ⟨rfl, .inr (by have := of_decide_eq_true hd; omega)⟩
        | false =>
          cases D with
          | false => rfl
          | true =>
            have h3 := of_decide_eq_false hd
            rcases (HD.out.1 rfl).2 with h4 | h4
            · exact absurd h4 h2
            · omega
      have h3 : ¬ (q : Int) = 1 := by omega
      have h4 : ((q : Int) == 1) = false := by rw [beq_eq_false_iff_ne]; exact h3
      clear HD
      subst hT
      go_enter Tryz.func94, Tryz.ntmps94
      go_wp2_with fail
      refine keep HW.out ?_
      go_wp2_with fail
      go_ret
      exact ⟨rfl, rfl⟩
  · have hF : D = false := by
      cases D with
      | false => rfl
      | true => exact absurd (HD.out.1 rfl).1 h1
    subst hF
    have h3 : ¬ (l : Int) = 1 := by omega
    have h4 : ((l : Int) == 1) = false := by rw [beq_eq_false_iff_ne]; exact h3
    go_enter Tryz.func94, Tryz.ntmps94
    go_wp2_with fail
    go_ret
    exact ⟨rfl, rfl⟩
def innP (O : List (List Sp)) (inn : Int) : Prop := ∀ i, i + 1 < O.length → fullP (O.getD i []) inn ∧ wdS (O.getD i []) = (O.getD (i + 1) []).length
instance (O : List (List Sp)) (inn : Int) : Decidable (innP O inn) := by
  unfold innP
  exact decidable_of_iff (∀ i, i < O.length - 1 → fullP (O.getD i []) inn ∧ wdS (O.getD i []) = (O.getD (i + 1) []).length) ⟨fun h i hi => h i (by omega), fun h i hi => h i (by omega)⟩
set_option maxRecDepth 100000 in
set_option maxHeartbeats 1600000 in
theorem inner_any (h : LQ W X B m N A ga gc nd lf inn fl bk s O ov) (hne : 0 < O.length) (hcn : ∀ c ∈ O, 0 < c.length) (hz : O.flatten.length ≤ 65536) :
    Calls Tryz.prog 95 #[.pointer (some ⟨B, 0, none⟩)] W fun e w' => e = .returned (.bool (decide (innP O inn))) ∧ w' = W := by
  obtain ⟨_, _, c7⟩ := h.cells
  obtain ⟨_, _, c3, _, _⟩ := h.cfg
  obtain ⟨g, hg, hrest⟩ := h.row_at (i := 0) hne
  clear hrest
  subst hg
  have hlc : O.length ≤ gc := by
    rcases h.row.2 with ⟨hv, _⟩ | ⟨g', cap, cu, hv, _, _, hle, _⟩
    · cases hv
    · cases hv; exact hle
  have HH := hide h
  have HCN := hide hcn
  have HZ := hide hz
  obtain ⟨D, hD⟩ : ∃ D, D = decide (innP O inn) := ⟨_, rfl⟩
  rw [← hD]
  have HD : Hid (D = true ↔ innP O inn) := by show _ ↔ _; rw [hD, decide_eq_true_iff]
  have hge : O.length ≤ 65536 := by
    have : O.length ≤ O.flatten.length := flat_ge (fun c hc e => by have := hcn c hc; rw [e] at this; exact absurd this (Nat.lt_irrefl 0))
    omega
  obtain ⟨l, hl⟩ : ∃ l, O.length = l + 1 := ⟨O.length - 1, by omega⟩
  obtain ⟨q, hq⟩ : ∃ q, l + 1 = q := ⟨_, rfl⟩
  have hlq : O.length = q := hl.trans hq
  rw [hlq] at c7 hlc hge
  have SL : ∀ w, (Instr.slice 176 (.slice (some ⟨g, 0, none⟩) q gc) (some (.int .i64 1)) none none).run Tryz.prog w = .ok (.slice (cutAt (some ⟨g, 0, none⟩) 1 gc) l (gc - 1)) w := fun w => by
    have := run_fromS (some ⟨g, 0, none⟩) q gc 1 (by omega) w
    rw [show q - 1 = l by omega] at this
    exact this
  have HQ := hide hlq
  have HLQ := hide hq
  clear h hcn hz hD hne hl hq hlq
  generalize hct : cutAt (some ⟨g, 0, none⟩) 1 gc = ct at *
  have HCT := hide hct
  clear hct
  go_enter Tryz.func95, Tryz.ntmps95
  go_wp2_with fail
  go_loopw [12] (fun q12 wr => ∃ i : Nat, i ≤ l ∧ q12 = .int .i64 (i : Int) ∧ Hid (∀ j, j < i → fullP (O.getD j []) inn ∧ wdS (O.getD j []) = (O.getD (j + 1) []).length) ∧ W = wr) (fun q12 _ => l - (intOf q12).toNat)
  case atStart => exact ⟨0, Nat.zero_le _, rfl, fun j hj => absurd hj (Nat.not_lt_zero j), rfl⟩
  case round =>
    obtain ⟨i, hi, rfl, HA, rfl⟩ := hrel
    by_cases hlt : i < l
    · have j1 : (i : Int) < (l : Int) := by omega
      have j2 : (i : Int) < (q : Int) := by have := HLQ.out; omega
      have hiO : i < O.length := by rw [HQ.out]; have := HLQ.out; omega
      have hiO1 : i + 1 < O.length := by rw [HQ.out]; have := HLQ.out; omega
      obtain ⟨g1, hg1, hi1, hc1, hok1, hos1⟩ := HH.out.row_at hiO
      obtain ⟨g2, hg2, hi2, hc2, hok2, hos2⟩ := HH.out.row_at hiO1
      cases hg1
      cases hg2
      have e1 : O.getD i [] = O[i] := by simp [hiO]
      have e2 : O.getD (i + 1) [] = O[i + 1] := by simp [hiO1]
      have hm1 : O[i] ∈ O := List.getElem_mem _
      have HFU := hide (full_any HH.out ov[i] hok1 O[i] (fun x hx => List.mem_flatten.2 ⟨_, hm1, hx⟩) hos1 (Nat.le_trans (chain_le hm1) HZ.out) (HCN.out _ hm1) inn)
      have HWI := hide (width_sp HH.out ov[i] hok1 O[i] (fun x hx => List.mem_flatten.2 ⟨_, hm1, hx⟩) hos1 (Nat.le_trans (chain_le hm1) HZ.out))
      have hl2 : ov[i + 1].s.length = O[i + 1].length := by rw [hos2, List.length_map]
      have hcg : gc ≠ 1 := by have := HLQ.out; omega
      have hct : ct = some ⟨g, 1, none⟩ := by rw [← HCT.out]; unfold cutAt; rw [if_neg hcg]; simp [Addr.add_lit]
      subst hct
      have hc2' : W.cell? ⟨g, 1 + i, none⟩ = some ov[i + 1].v := by rw [Nat.add_comm]; exact hc2
      generalize ov[i + 1] = v2 at *
      generalize ov[i] = v1 at *
      obtain ⟨a1, r1, s1⟩ := v1
      obtain ⟨a2, r2, s2⟩ := v2
      simp only [IL.v] at hc1 hc2' HFU HWI
      simp only at hl2
      rw [hl2] at hc2'
      generalize s1.length = n1 at *
      have HE1 := hide (And.intro e1 e2)
      obtain ⟨l2, hl2'⟩ : ∃ l2, O[i + 1].length = l2 := ⟨_, rfl⟩
      rw [hl2'] at hc2'
      have HL2 := hide hl2'
      obtain ⟨wd, hwd⟩ : ∃ wd, wdS O[i] = wd := ⟨_, rfl⟩
      rw [hwd] at HWI
      have HWD := hide hwd
      clear hok1 hos1 hok2 hos2 hc2 hl2 e1 e2 hl2' hwd hm1
      by_cases hfu : fullP O[i] inn
      · rw [decide_eq_true hfu] at HFU
        by_cases hw : wd = l2
        · subst hw
          go_wp2_with fail
          refine keep HFU.out ?_
          go_wp2_with fail
          refine keep HWI.out ?_
          go_wp2_with fail
          go_roundw
          case rel =>
            refine ⟨i + 1, by omega, by go_num, fun j hj => ?_, trivial⟩
            rcases Nat.lt_or_ge j i with h | h
            · exact HA.out j h
            · obtain rfl : j = i := by omega
              rw [HE1.out.1, HE1.out.2, HWD.out, HL2.out]
              exact ⟨hfu, rfl⟩
          case measure => simp [intOf]; omega
        · have hF : D = false := by
            cases D with
            | false => rfl
            | true => have := ((HD.out.1 rfl) i hiO1).2; rw [HE1.out.1, HE1.out.2, HWD.out, HL2.out] at this; exact absurd this hw
          subst hF
          have hw2 : ¬ (wd : Int) = (l2 : Int) := by omega
          have hw3 : ((wd : Int) == (l2 : Int)) = false := by rw [beq_eq_false_iff_ne]; exact hw2
          go_wp2_with fail
          refine keep HFU.out ?_
          go_wp2_with fail
          refine keep HWI.out ?_
          go_wp2_with fail
          go_ret
          exact ⟨rfl, rfl⟩
      · rw [decide_eq_false hfu] at HFU
        have hF : D = false := by
          cases D with
          | false => rfl
          | true => have := ((HD.out.1 rfl) i hiO1).1; rw [HE1.out.1] at this; exact absurd this hfu
        subst hF
        go_wp2_with fail
        refine keep HFU.out ?_
        go_wp2_with fail
        go_ret
        exact ⟨rfl, rfl⟩
    · have j1 : ¬ (i : Int) < (l : Int) := by omega
      have hT : D = true := HD.out.2 (fun j hj => HA.out j (by have := HLQ.out; have := HQ.out; omega))
      subst hT
      obtain rfl : i = l := by omega
      go_wp2_with fail
      go_ret
      exact ⟨rfl, rfl⟩
def lefP (c : List Sp) (fl : Int) : Prop := fullP c fl ∧ (((c.getLast?.map Sp.w).getD 0 : Nat) : Int) ≤ fl ∧ (1 ≤ (c.getLast?.map Sp.w).getD 0 ∨ c.length = 1)
instance (c : List Sp) (fl : Int) : Decidable (lefP c fl) := by unfold lefP; exact inferInstance
set_option maxRecDepth 100000 in
set_option maxHeartbeats 1600000 in
theorem leaves_any (h : LQ W X B m N A ga gc nd lf inn fl bk s O ov) (k : Nat) (hk : O.length = k + 1) (hzk : k ≤ 65536) (c : List Sp) (hc : O.getLast? = some c) (hcn : 0 < c.length) (hz : c.length ≤ 65536) :
    Calls Tryz.prog 96 #[.pointer (some ⟨B, 0, none⟩)] W fun e w' => e = .returned (.bool (decide (lefP c fl))) ∧ Below W.heap.size W w' := by
  obtain ⟨hk', HLO'⟩ := lowest_any h k hk hzk
  have HLO := hide HLO'
  obtain ⟨g, hg, _, _, hok, hos⟩ := h.row_at (i := k) (by omega)
  have hOk : O[k]'(by omega) = c := by
    rw [List.getLast?_eq_getElem?, hk, Nat.add_sub_cancel, List.getElem?_eq_getElem (by omega)] at hc
    exact Option.some.inj hc
  rw [hOk] at hos
  have hcm : ∀ x ∈ c, x ∈ O.flatten := fun x hx => List.mem_flatten.2 ⟨O[k]'(by omega), List.getElem_mem _, by rw [hOk]; exact hx⟩
  obtain ⟨l, hl⟩ : ∃ l, c.length = l + 1 := ⟨c.length - 1, by omega⟩
  have hlc : l < c.length := by omega
  obtain ⟨x, hx⟩ : ∃ x, c[l] = x := ⟨_, rfl⟩
  have hxm : x ∈ O.flatten := hcm x (by rw [← hx]; exact List.getElem_mem _)
  have hlast : (c.getLast?.map Sp.w).getD 0 = x.w := by
    rw [List.getLast?_eq_getElem?, hl, Nat.add_sub_cancel, List.getElem?_eq_getElem hlc, hx]
    rfl
  obtain ⟨D, hD⟩ : ∃ D, D = decide (lefP c fl) := ⟨_, rfl⟩
  rw [← hD]
  obtain ⟨fu, hfu⟩ : ∃ fu, fu = decide (fullP c fl) := ⟨_, rfl⟩
  have HFU : Hid (∀ Y, Below W.heap.size W Y → Calls Tryz.prog 125 #[.pointer (some ⟨B, 0, none⟩), ov[k].v, .int .i64 fl] Y fun e w' => e = .returned (.bool fu) ∧ w' = Y) := fun Y hb => by rw [hfu]; exact full_any (h.below hb) ov[k] (hok.below hb) c hcm hos hz hcn fl
  have hvl : ov[k].s.length = l + 1 := by rw [hos, List.length_map]; exact hl
  obtain ⟨vb, vo, hva, hvc⟩ := hok.r l (by omega)
  have hgl : ov[k].s.getD l 0 = x.id := by rw [hos]; simp [hlc, hx]
  rw [hgl] at hvc
  have HLK : Hid (∀ Y, Below W.heap.size W Y → ∃ fa fl' fc fka fkl fkc fca fcl fcc, (Instr.lookup 175 (.map (some m)) (.int .i64 x.id) false).run Tryz.prog Y = .ok (.agg #[.int .i64 x.n.lv, .slice fa fl' fc, .int .i64 (x.w : Nat), .slice fka fkl fkc, .slice fca fcl fcc]) Y) := fun Y hb => by
    have := (h.below hb).im.look (P := Tryz.prog) (t := 175) Tryz.underlying175 Tryz.underlying3 (zero_spot2 Y) x.id false
    obtain ⟨fa, fl', fc, fka, fkl, fkc, fca, fcl, fcc, hform⟩ := x.form2
    rw [h.at hxm, hform] at this
    exact ⟨fa, fl', fc, fka, fkl, fkc, fca, fcl, fcc, by simpa using this⟩
  have KC : Hid (∀ Y, Below W.heap.size W Y → Y.cell? ⟨B, 6, none⟩ = some (.map (some m)) ∧ Y.cell? ⟨vb, vo + l, none⟩ = some (.int .i64 x.id) ∧ Y.cell? ⟨B, 4, none⟩ = some (.int .i64 fl)) := fun Y hb => ⟨(h.below hb).cells.2.1, (hb.cell (p := ⟨vb, vo + l, none⟩) (World.block_lt_of_cell? W ⟨vb, vo + l, none⟩ hvc)).trans hvc, (h.below hb).cfg.2.2.2.1⟩
  have hovl : ov[k].v = .slice (some ⟨vb, vo, none⟩) (l + 1) ov[k].c := by unfold IL.v; rw [hva, hvl]
  rw [hovl] at HFU HLO
  have HD : Hid (D = (fu && (decide ((x.w : Int) ≤ fl) && (decide ((1 : Int) ≤ (x.w : Int)) || decide (l = 0))))) := by
    show _ = _
    rw [Bool.eq_iff_iff, hD, hfu]
    simp only [decide_eq_true_iff, Bool.and_eq_true, Bool.or_eq_true]
    unfold lefP
    rw [hlast, hl]
    constructor
    · rintro ⟨a1, a2, a3⟩
      exact ⟨a1, a2, a3.imp (fun e => by omega) (fun e => by omega)⟩
    · rintro ⟨a1, a2, a3⟩
      exact ⟨a1, a2, a3.imp (fun e => by omega) (fun e => by omega)⟩
  clear h hok hos hOk hcm hlast hD hfu hva hvc hgl hovl hxm hx hlc hg hc hcn hvl HLO'
  generalize ov[k].c = oc at *
  generalize x.id = xid at *
  generalize x.w = xw at *
  generalize x.n.lv = xlv at *
  obtain ⟨q, hq⟩ : ∃ q, l + 1 = q := ⟨_, rfl⟩
  rw [hq] at HFU HLO
  have x1 : IntKind.i64.wrap ((q : Int) - 1) = (l : Int) := by unfold IntKind.wrap; simp [IntKind.bits, IntKind.signed]; omega
  have x2 : (l : Int) < (q : Int) := by omega
  have x3 : (0 : Int) ≤ (l : Int) := by omega
  have HQ := hide hq
  clear hq hl hk hz
  go_enter Tryz.func96, Tryz.ntmps96
  go_wp2_with fail
  refine HLO.out.mono ?_
  rintro e w2 ⟨rfl, j, hj⟩
  have B2 : Hid (Below W.heap.size W w2) := by rw [hj]; exact below_drewN (Below.refl _ _) j
  obtain ⟨k6, kv, k4⟩ := KC.out w2 B2.out
  have B2d : Hid (Below W.heap.size W w2.drew) := below_drew B2.out
  obtain ⟨fa, fl', fc, fka, fkl, fkc, fca, fcl, fcc, LOOK⟩ := HLK.out w2.drew B2d.out
  have FLD : ∀ w, (Instr.field 199 (.agg #[.int .i64 xlv, .slice fa fl' fc, .int .i64 (xw : Nat), .slice fka fkl fkc, .slice fca fcl fcc]) 2).run Tryz.prog w = .ok (.int .i64 (xw : Nat)) w := fun w => by kernel_rfl
  clear hj
  go_wp2_with fail
  go_region_held3 (fun Y => Y.cell? ⟨B, 6, none⟩ = some (.map (some m)) ∧ Y.cell? ⟨vb, vo + l, none⟩ = some (.int .i64 xid)) (go_keep) (fail)
  clear LOOK FLD
  obtain ⟨m6, mv, m4⟩ := KC.out w2.drew B2d.out
  go_wp2_with fail
  refine keep (HFU.out w2.drew B2d.out) ?_
  cases fu with
  | false =>
    have hF : D = false := HD.out
    subst hF
    go_wp2_with fail
    go_ret
    exact ⟨rfl, B2d.out⟩
  | true =>
    by_cases h1 : (xw : Int) ≤ fl
    · by_cases h2 : (1 : Int) ≤ (xw : Int)
      · have hT : D = true := by rw [HD.out, decide_eq_true h1, decide_eq_true h2]; rfl
        subst hT
        go_wp2_with fail
        go_ret
        exact ⟨rfl, B2d.out⟩
      · by_cases h3 : l = 0
        · have hT : D = true := by rw [HD.out, decide_eq_true h1, decide_eq_false h2, decide_eq_true h3]; rfl
          have hq1 : q = 1 := by have := HQ.out; omega
          subst hT
          subst hq1
          go_wp2_with fail
          go_ret
          exact ⟨rfl, B2d.out⟩
        · have hT : D = false := by rw [HD.out, decide_eq_true h1, decide_eq_false h2, decide_eq_false h3]; rfl
          have hq1 : ¬ (q : Int) = 1 := by have := HQ.out; omega
          have hq2 : ((q : Int) == 1) = false := by rw [beq_eq_false_iff_ne]; exact hq1
          have H2 : Hid (decide ((1 : Int) ≤ (xw : Int)) = false) := decide_eq_false h2
          subst hT
          go_wp2_with fail
          go_ret
          exact ⟨by rw [H2.out]; rfl, B2d.out⟩
    · have hT : D = false := by rw [HD.out, decide_eq_false h1]; rfl
      subst hT
      go_wp2_with fail
      go_ret
      exact ⟨rfl, B2d.out⟩
end
end Go.Proofs.YtibifkindpgkgaaGreat

namespace Go.Proofs.YtibifkindpgkgaaGreat
open Go.RowKit
set_option maxRecDepth 100000

/-- What Check tells. -/
def AS.rep (s : AS) (nd lf inn fl bk : Int) (v : Value) : Prop :=
  (∃ id er, s.look nd lf inn fl bk = .inl (id, er) ∧ v = rpt false id er 0 0 0) ∨
    ∃ ls c, s.look nd lf inn fl bk = .inr ls ∧ ls.getLast? = some c ∧ v = rpt true 0 0 (ls.length : Nat) ((idsOf ls).length : Nat) ((c.map fun x => (s.n x.1).ks.length).sum : Nat)
theorem AS.rep_uniq {s : AS} {nd lf inn fl bk : Int} {v v' : Value} (h : s.rep nd lf inn fl bk v) (h' : s.rep nd lf inn fl bk v') : v = v' := by
  rcases h with ⟨i, e, h1, rfl⟩ | ⟨ls, c, h1, h2, rfl⟩
  · rcases h' with ⟨i', e', h3, rfl⟩ | ⟨ls', c', h3, h4, rfl⟩
    · rw [h1] at h3; cases h3; rfl
    · rw [h1] at h3; cases h3
  · rcases h' with ⟨i', e', h3, rfl⟩ | ⟨ls', c', h3, h4, rfl⟩
    · rw [h1] at h3; cases h3
    · rw [h1] at h3
      cases h3
      rw [h2] at h4
      cases h4
      rfl
theorem wdS_leaf {s : AS} : ∀ (c : List Sp), (∀ x ∈ c, x.n.lv = 0 ∧ x.n.p = s.n x.id) → wdS c = ((c.map Sp.q).map fun x => (s.n x.1).ks.length).sum
  | [], _ => rfl
  | x :: r, h => by
    have h1 := wdS_leaf r (fun y hy => h y (.tail _ hy))
    have h2 := h x (.head _)
    unfold wdS at h1 ⊢
    simp only [List.map_cons, List.sum_cons]
    rw [h1]
    congr 1
    unfold Sp.w
    rw [if_neg (by omega)]
    show x.n.ks.L.length = (s.n x.id).ks.length
    rw [← h2.2]
    exact (TL.p_len _).symm
/-- What lookAt tells, as such. -/
theorem lkp_rep {W w' : World} {A : Nat} {nd lf inn fl bk : Int} {s : AS} {e : Ending} (h : LkP W A nd lf inn fl bk s e w') : ∃ p v, e = .returned (.tuple #[.pointer p, v]) ∧ s.rep nd lf inn fl bk v := by
  obtain ⟨_, h | h⟩ := h
  · obtain ⟨id, er, p, h1, h2⟩ := h
    exact ⟨p, _, h2, .inl ⟨id, er, h1, rfl⟩⟩
  · obtain ⟨B, m, N, ga, gc, O, ov, c, h1, h2, h3, hlq, hlv⟩ := h
    refine ⟨_, _, h3, .inr ⟨chQ O, c.map Sp.q, h1, ?_, ?_⟩⟩
    · unfold chQ; rw [List.getLast?_map, h2]; rfl
    · have e1 : (chQ O).length = O.length := by simp [chQ]
      have e2 : (idsOf (chQ O)).length = O.flatten.length := by rw [chQ_ids, List.length_map]
      rw [e1, e2, wdS_leaf c]
      intro x hx
      rw [List.getLast?_eq_getElem?] at h2
      obtain ⟨hi, hc⟩ := List.getElem?_eq_some_iff.1 h2
      have hxo : x ∈ O.flatten := List.mem_flatten.2 ⟨c, by rw [← hc]; exact List.getElem_mem _, hx⟩
      refine ⟨?_, (hlq.sp x hxo).p⟩
      have := hlv.lv (O.length - 1) hi x (by rw [hc]; exact hx)
      omega
theorem rep_form {s : AS} {nd lf inn fl bk : Int} {v : Value} (h : s.rep nd lf inn fl bk v) : ∃ b i e l n en, v = .agg #[.bool b, .int .i64 i, .int .i64 e, .int .i64 l, .int .i64 n, .int .i64 en] := by
  rcases h with ⟨id, er, _, rfl⟩ | ⟨ls, c, _, _, rfl⟩
  · exact ⟨_, _, _, _, _, _, rfl⟩
  · exact ⟨_, _, _, _, _, _, rfl⟩
def ChP (W : World) (nd lf inn fl bk : Int) (s : AS) (e : Ending) (w' : World) : Prop := ∃ v, e = .returned v ∧ s.rep nd lf inn fl bk v ∧ Below W.heap.size W w'
set_option maxRecDepth 100000 in
set_option maxHeartbeats 1600000 in
theorem scheck_any {W : World} {A : Nat} {F : Nat → Prop} {s : AS} (hp : PX W A F s) (nd lf inn fl bk : Int) :
    Calls Tryz.prog 14 #[.pointer (some ⟨A, 0, none⟩), .agg #[.int .i64 nd, .int .i64 lf, .int .i64 inn, .int .i64 fl, .int .i64 bk]] W (ChP W nd lf inn fl bk s) := by
  obtain ⟨w1, hw1⟩ : ∃ x, x = W.alloc (.cells #[.int .i64 nd, .int .i64 lf, .int .i64 inn, .int .i64 fl, .int .i64 bk] 24) := ⟨_, rfl⟩
  obtain ⟨w2, hw2⟩ : ∃ x, x = w1.alloc (.cells #[.bool false, .int .i64 0, .int .i64 0, .int .i64 0, .int .i64 0, .int .i64 0] 45) := ⟨_, rfl⟩
  have z1 : w1.heap.size = W.heap.size + 1 := by rw [hw1]; simp
  have b1 : Below W.heap.size W w1 := by rw [hw1]; exact (Below.refl _ _).alloc (Nat.le_refl _) _
  have b12 : Below w1.heap.size w1 w2 := by rw [hw2]; exact (Below.refl _ _).alloc (Nat.le_refl _) _
  have g1 : w1.heap[W.heap.size]? = some (.cells #[.int .i64 nd, .int .i64 lf, .int .i64 inn, .int .i64 fl, .int .i64 bk] 24 (0, 0)) := by rw [hw1]; exact heap_alloc_new W _
  have G1 : Hid (w2.heap[W.heap.size]? = some (.cells #[.int .i64 nd, .int .i64 lf, .int .i64 inn, .int .i64 fl, .int .i64 bk] 24 (0, 0))) := (b12.block _ (by omega)).trans g1
  have G2 : Hid (w2.heap[W.heap.size + 1]? = some (.cells #[.bool false, .int .i64 0, .int .i64 0, .int .i64 0, .int .i64 0, .int .i64 0] 45 (0, 0))) := by show _ = _; rw [← z1, hw2]; exact heap_alloc_new w1 _
  have B2 := hide (b1.trans (b12.mono b1.size))
  have HW2 : Hid ((W.alloc (.cells #[.int .i64 nd, .int .i64 lf, .int .i64 inn, .int .i64 fl, .int .i64 bk] 24)).alloc (.cells #[.bool false, .int .i64 0, .int .i64 0, .int .i64 0, .int .i64 0, .int .i64 0] 45) = w2) := by show _ = _; rw [hw2, hw1]
  have HLK := hide (lookAt_any (hp.below B2.out) nd lf inn fl bk)
  obtain ⟨d0, d1, d2, d3, d4⟩ := five_of G1.out
  clear hw1 hw2 z1 b1 b12 g1 hp
  go_enter Tryz.func14, Tryz.ntmps14
  go_upto_region 1 with fail
  rw [HW2.out]
  go_wp2_with fail
  refine HLK.out.mono ?_
  intro e w3 hlk
  have hb3 := hlk.1
  obtain ⟨p, v, rfl, hrep⟩ := lkp_rep hlk
  obtain ⟨b, i, er, l, n, en, rfl⟩ := rep_form hrep
  have HREP := hide hrep
  obtain ⟨w4, hw4⟩ : ∃ x, x = w3.alloc (.cells #[.bool b, .int .i64 i, .int .i64 er, .int .i64 l, .int .i64 n, .int .i64 en] 45) := ⟨_, rfl⟩
  have b4 : Below w3.heap.size w3 w4 := by rw [hw4]; exact (Below.refl _ _).alloc (Nat.le_refl _) _
  have G4 : w4.heap[w3.heap.size]? = some (.cells #[.bool b, .int .i64 i, .int .i64 er, .int .i64 l, .int .i64 n, .int .i64 en] 45 (0, 0)) := by rw [hw4]; exact heap_alloc_new w3 _
  have b24 := hb3.trans (b4.mono hb3.size)
  have G24 : Hid (w4.heap[W.heap.size + 1]? = _) := (b24.block _ (lt_of_block G2.out)).trans G2.out
  have B4 := hide (B2.out.trans (b24.mono B2.out.size))
  have HW4 := hide hw4
  obtain ⟨m0, m1, m2, m3, m4, m5⟩ := Six.of G4
  obtain ⟨y0, y1, y2, y3, y4, y5⟩ := Six.of G24.out
  have F5 := fun j => frozen_of G24.out j
  clear hlk hb3 hrep hw4 b4 G4 b24 d0 d1 d2 d3 d4
  go_upto_region 2 with fail
  rw [← HW4.out]
  go_wp2_with fail
  (try simp only [Exit.inBlock, Exit.then])
  have G9 := six_block G24.out (.bool b) (.int .i64 i) (.int .i64 er) (.int .i64 l) (.int .i64 n) (.int .i64 en)
  have U9 : Upd (fun b => b = W.heap.size + 1) w4 (six6 w4 (W.heap.size + 1) (.bool b) (.int .i64 i) (.int .i64 er) (.int .i64 l) (.int .i64 n) (.int .i64 en)) := six_upd _ _ _ _ _ _ _ _ _ rfl
  obtain ⟨q0, q1, q2, q3, q4, q5⟩ := Six.of G9
  show bodyPost _ _ _ _ _ (six6 w4 (W.heap.size + 1) (.bool b) (.int .i64 i) (.int .i64 er) (.int .i64 l) (.int .i64 n) (.int .i64 en))
  generalize six6 w4 (W.heap.size + 1) (.bool b) (.int .i64 i) (.int .i64 er) (.int .i64 l) (.int .i64 n) (.int .i64 en) = w9 at *
  exact bodyPost_ret (v := .agg #[.bool b, .int .i64 i, .int .i64 er, .int .i64 l, .int .i64 n, .int .i64 en]) (by simp [results, Tryz.results14, go_sem, q0, q1, q2, q3, q4, q5]) rfl ⟨_, rfl, HREP.out, B4.out.trans (U9.below B4.out.size (fun k hk e => by omega))⟩
/-- What Packed tells, over what a look keeps. -/
def PkS (O : List (List Sp)) (inn fl : Int) : Prop := topP O ∧ innP O inn ∧ lefP (O.getLast?.getD []) fl
instance (O : List (List Sp)) (inn fl : Int) : Decidable (PkS O inn fl) := by unfold PkS; exact inferInstance
def PkP (W : World) (nd lf inn fl bk : Int) (s : AS) (e : Ending) (w' : World) : Prop := Below W.heap.size W w' ∧ ((∃ id er, s.look nd lf inn fl bk = .inl (id, er) ∧ e = .returned (.bool false)) ∨ ∃ O, s.look nd lf inn fl bk = .inr (chQ O) ∧ (∀ x ∈ O.flatten, x.n.p = s.n x.id) ∧ Lvs s (fun p => nchkE p nd lf inn fl bk) O (-1) ∧ e = .returned (.bool (decide (PkS O inn fl))))
set_option maxRecDepth 100000 in
set_option maxHeartbeats 1600000 in
theorem spacked_any {W : World} {A : Nat} {F : Nat → Prop} {s : AS} (hp : PX W A F s) (nd lf inn fl bk : Int) :
    Calls Tryz.prog 42 #[.pointer (some ⟨A, 0, none⟩), .agg #[.int .i64 nd, .int .i64 lf, .int .i64 inn, .int .i64 fl, .int .i64 bk]] W (PkP W nd lf inn fl bk s) := by
  obtain ⟨w1, hw1⟩ : ∃ x, x = W.alloc (.cells #[.int .i64 nd, .int .i64 lf, .int .i64 inn, .int .i64 fl, .int .i64 bk] 24) := ⟨_, rfl⟩
  have b1 : Below W.heap.size W w1 := by rw [hw1]; exact (Below.refl _ _).alloc (Nat.le_refl _) _
  have g1 : w1.heap[W.heap.size]? = some (.cells #[.int .i64 nd, .int .i64 lf, .int .i64 inn, .int .i64 fl, .int .i64 bk] 24 (0, 0)) := by rw [hw1]; exact heap_alloc_new W _
  have B1 := hide b1
  have HW1 : Hid (W.alloc (.cells #[.int .i64 nd, .int .i64 lf, .int .i64 inn, .int .i64 fl, .int .i64 bk] 24) = w1) := hw1.symm
  have HLK := hide (lookAt_any (hp.below b1) nd lf inn fl bk)
  have HSL := hide (px_len hp)
  obtain ⟨d0, d1, d2, d3, d4⟩ := five_of g1
  clear hw1 b1 g1 hp
  go_enter Tryz.func42, Tryz.ntmps42
  go_upto_region 1 with fail
  rw [HW1.out]
  go_wp2_with fail
  refine HLK.out.mono ?_
  rintro e w3 ⟨hb3, ⟨id, er, v, hR, rfl⟩ | ⟨B, m, N, ga, gc, O, ov, c, hR, hlast, rfl, hlq, hlv⟩⟩
  · have HR := hide hR
    have B3 := hide (B1.out.trans (hb3.mono B1.out.size))
    simp only [rpt_form]
    obtain ⟨w4, hw4⟩ : ∃ x, x = w3.alloc (.cells #[.bool false, .int .i64 id, .int .i64 er, .int .i64 0, .int .i64 0, .int .i64 0] 45) := ⟨_, rfl⟩
    have b4 : Below w3.heap.size w3 w4 := by rw [hw4]; exact (Below.refl _ _).alloc (Nat.le_refl _) _
    have G4 : w4.heap[w3.heap.size]? = some (.cells #[.bool false, .int .i64 id, .int .i64 er, .int .i64 0, .int .i64 0, .int .i64 0] 45 (0, 0)) := by rw [hw4]; exact heap_alloc_new w3 _
    have B4 := hide (B3.out.trans (b4.mono B3.out.size))
    have HW4 := hide hw4
    obtain ⟨m0, m1, m2, m3, m4, m5⟩ := Six.of G4
    clear hR hb3 hw4 b4 G4 d0 d1 d2 d3 d4
    go_upto_region 2 with fail
    rw [← HW4.out]
    go_wp2_with fail
    go_ret
    exact ⟨B4.out, .inl ⟨id, er, HR.out, rfl⟩⟩
  · have HR := hide hR
    have HLV := hide hlv
    have B3 := hide (B1.out.trans (hb3.mono B1.out.size))
    have hmet := hlv.met.len
    rw [List.length_map] at hmet
    have hsl := HSL.out.1
    have hge := flat_ge hlv.ne
    have hne : 0 < O.length := by
      cases hO : O with
      | nil => rw [hO] at hlast; cases hlast
      | cons a r => simp
    have hcO : c ∈ O := List.mem_of_getLast? hlast
    have hcl := chain_le hcO
    have hcne : 0 < c.length := by
      cases hc : c with
      | nil => exact absurd hc (hlv.ne c hcO)
      | cons a r => simp
    have hcn : ∀ d ∈ O, 0 < d.length := fun d hd => by
      cases hc : d with
      | nil => exact absurd hc (hlv.ne d hd)
      | cons a r => simp
    have h0z : (O.getD 0 []).length ≤ 65536 := by
      have : O.getD 0 [] = O[0] := by simp [hne]
      rw [this]
      have := chain_le (List.getElem_mem (h := hne))
      omega
    have HTP : Hid (∀ Y, Below w3.heap.size w3 Y → Calls Tryz.prog 94 #[.pointer (some ⟨B, 0, none⟩)] Y fun e w' => e = .returned (.bool (decide (topP O))) ∧ w' = Y) := fun Y hb => top_any (hlq.below hb) hne h0z
    have HIP : Hid (∀ Y, Below w3.heap.size w3 Y → Calls Tryz.prog 95 #[.pointer (some ⟨B, 0, none⟩)] Y fun e w' => e = .returned (.bool (decide (innP O inn))) ∧ w' = Y) := fun Y hb => inner_any (hlq.below hb) hne hcn (by omega)
    have HLP : Hid (∀ Y, Below w3.heap.size w3 Y → Calls Tryz.prog 96 #[.pointer (some ⟨B, 0, none⟩)] Y fun e w' => e = .returned (.bool (decide (lefP c fl))) ∧ Below Y.heap.size Y w') := fun Y hb => leaves_any (hlq.below hb) (O.length - 1) (by omega) (by omega) c hlast hcne (by omega)
    have HPK : Hid (decide (PkS O inn fl) = (decide (topP O) && (decide (innP O inn) && decide (lefP c fl)))) := by
      show _ = _
      unfold PkS
      rw [Bool.eq_iff_iff]
      simp only [decide_eq_true_iff, Bool.and_eq_true, hlast, Option.getD_some]
    have HPP : Hid (∀ x ∈ O.flatten, x.n.p = s.n x.id) := fun x hx => (hlq.sp x hx).p
    obtain ⟨ol, hol⟩ : ∃ ol, O.length = ol := ⟨_, rfl⟩
    obtain ⟨fo, hfo⟩ : ∃ fo, O.flatten.length = fo := ⟨_, rfl⟩
    rw [hol, hfo]
    simp only [rpt_form]
    generalize wdS c = WD at *
    obtain ⟨T, hT⟩ : ∃ T, decide (topP O) = T := ⟨_, rfl⟩
    obtain ⟨I, hI⟩ : ∃ I, decide (innP O inn) = I := ⟨_, rfl⟩
    obtain ⟨L, hL⟩ : ∃ L, decide (lefP c fl) = L := ⟨_, rfl⟩
    rw [hT] at HTP HPK
    rw [hI] at HIP HPK
    rw [hL] at HLP HPK
    obtain ⟨w4, hw4⟩ : ∃ x, x = w3.alloc (.cells #[.bool true, .int .i64 0, .int .i64 0, .int .i64 (ol : Nat), .int .i64 (fo : Nat), .int .i64 (WD : Nat)] 45) := ⟨_, rfl⟩
    have b4 : Below w3.heap.size w3 w4 := by rw [hw4]; exact (Below.refl _ _).alloc (Nat.le_refl _) _
    have G4 : w4.heap[w3.heap.size]? = some (.cells #[.bool true, .int .i64 0, .int .i64 0, .int .i64 (ol : Nat), .int .i64 (fo : Nat), .int .i64 (WD : Nat)] 45 (0, 0)) := by rw [hw4]; exact heap_alloc_new w3 _
    have B34 := hide b4
    have B4 := hide (B3.out.trans (b4.mono B3.out.size))
    have HW4 := hide hw4
    obtain ⟨m0, m1, m2, m3, m4, m5⟩ := Six.of G4
    clear hR hlv hlq hb3 hw4 b4 G4 d0 d1 d2 d3 d4 hT hI hL hmet hsl hge hne hcO hcl hcne hcn h0z hlast hol hfo
    go_upto_region 2 with fail
    rw [← HW4.out]
    cases T with
    | false =>
      go_wp2_with fail
      refine keep (HTP.out w4 B34.out) ?_
      go_wp2_with fail
      go_ret
      exact ⟨B4.out, .inr ⟨O, HR.out, HPP.out, HLV.out, by rw [HPK.out]; rfl⟩⟩
    | true =>
      cases I with
      | false =>
        go_wp2_with fail
        refine keep (HTP.out w4 B34.out) ?_
        go_wp2_with fail
        refine keep (HIP.out w4 B34.out) ?_
        go_wp2_with fail
        go_ret
        exact ⟨B4.out, .inr ⟨O, HR.out, HPP.out, HLV.out, by rw [HPK.out]; rfl⟩⟩
      | true =>
        go_wp2_with fail
        refine keep (HTP.out w4 B34.out) ?_
        go_wp2_with fail
        refine keep (HIP.out w4 B34.out) ?_
        go_wp2_with fail
        refine (HLP.out w4 B34.out).mono ?_
        rintro e w5 ⟨rfl, hb5⟩
        go_wp2_with fail
        go_ret
        exact ⟨B4.out.trans (hb5.mono B4.out.size), .inr ⟨O, HR.out, HPP.out, HLV.out, by rw [HPK.out]; rfl⟩⟩
end Go.Proofs.YtibifkindpgkgaaGreat

namespace Go.Proofs.YtibifkindpgkgaaGreat
open Go.RowKit
set_option maxRecDepth 100000

theorem look_new : (AS.new 9).look 9 2 3 2 4 = .inr [[(1, [])]] := by decide +kernel
theorem rep_new : (AS.new 9).rep 9 2 3 2 4 (rpt true 0 0 1 1 0) := .inr ⟨[[(1, [])]], [(1, [])], look_new, rfl, by
  have : (([(1, [])] : Chn).map fun x => ((AS.new 9).n x.1).ks.length).sum = 0 := by decide +kernel
  rw [this]; rfl⟩
theorem pk_new {O : List (List Sp)} (h : chQ O = [[(1, [])]]) (hp : ∀ x ∈ O.flatten, x.n.p = (AS.new 9).n x.id) : PkS O 3 2 := by
  obtain ⟨x, rfl, hx⟩ : ∃ x, O = [[x]] ∧ x.id = 1 := by
    unfold chQ at h
    cases O with
    | nil => cases h
    | cons c r =>
      rw [List.map_cons] at h
      cases r with
      | cons d r' => simp at h
      | nil =>
        simp only [List.map_nil, List.cons.injEq, and_true] at h
        cases c with
        | nil => cases h
        | cons x r' =>
          cases r' with
          | cons y r'' => simp at h
          | nil =>
            simp only [List.map_cons, List.map_nil, List.cons.injEq, and_true, Sp.q, Prod.mk.injEq] at h
            exact ⟨x, rfl, h.1⟩
  have h1 := hp x (by simp)
  rw [hx, show (AS.new 9).n 1 = NP.zero from rfl] at h1
  have hw : x.w = 0 := by
    have h2 : x.n.p.lv = 0 := by rw [h1]; rfl
    have h3 : x.n.p.ks = [] := by rw [h1]; rfl
    have h4 : x.n.lv = 0 := h2
    unfold Sp.w
    rw [if_neg (by omega), ← TL.p_len]
    show x.n.p.ks.length = 0
    rw [h3]; rfl
  refine ⟨⟨rfl, .inl rfl⟩, fun i hi => ?_, ⟨fun i hi h2 => ?_, ?_, .inr rfl⟩⟩
  · simp at hi
  · simp at h2
  · simp [hw]
set_option maxRecDepth 100000 in
set_option maxHeartbeats 1600000 in
theorem head11_any (w : World) : Calls Tryz.prog 8 #[] w fun e w' => e = .returned (.bool true) ∧ Below w.heap.size w w' := by
  obtain ⟨w1, hw1⟩ : ∃ x, x = w.alloc (.cells #[.int .i64 9, .int .i64 2, .int .i64 3, .int .i64 2, .int .i64 4] 24) := ⟨_, rfl⟩
  have b1 : Below w.heap.size w w1 := by rw [hw1]; exact (Below.refl _ _).alloc (Nat.le_refl _) _
  have G1 : Hid (w1.heap[w.heap.size]? = some (.cells #[.int .i64 9, .int .i64 2, .int .i64 3, .int .i64 2, .int .i64 4] 24 (0, 0))) := by show _ = _; rw [hw1]; exact heap_alloc_new w _
  have HW1 : Hid (w.alloc (.cells #[.int .i64 9, .int .i64 2, .int .i64 3, .int .i64 2, .int .i64 4] 24) = w1) := hw1.symm
  have HN := hide (px_new 9 w1 (by decide) (by decide))
  have B1 := hide b1
  clear hw1 b1
  go_enter Tryz.func8, Tryz.ntmps8
  go_upto_region 2 with fail
  rw [HW1.out]
  go_wp2_with fail
  refine HN.out.mono ?_
  rintro e w2 ⟨A, F, rfl, hp, hF, hb⟩
  have HCK := hide (scheck_any hp 9 2 3 2 4)
  have HP := hide hp
  have B2 := hide (B1.out.trans (hb.mono B1.out.size))
  have G2 : Hid (w2.heap[w.heap.size]? = _) := (hb.block _ (lt_of_block G1.out)).trans G1.out
  obtain ⟨d0, d1, d2, d3, d4⟩ := five_of G2.out
  clear hp hF hb HN
  go_wp2_with fail
  refine HCK.out.mono ?_
  rintro e w3 ⟨v, rfl, hrep, hb3⟩
  obtain rfl : v = rpt true 0 0 1 1 0 := AS.rep_uniq hrep rep_new
  simp only [rpt_form]
  obtain ⟨w4, hw4⟩ : ∃ x, x = w3.alloc (.cells #[.bool true, .int .i64 0, .int .i64 0, .int .i64 1, .int .i64 1, .int .i64 0] 45) := ⟨_, rfl⟩
  have b4 : Below w3.heap.size w3 w4 := by rw [hw4]; exact (Below.refl _ _).alloc (Nat.le_refl _) _
  have G4 : w4.heap[w3.heap.size]? = some (.cells #[.bool true, .int .i64 0, .int .i64 0, .int .i64 1, .int .i64 1, .int .i64 0] 45 (0, 0)) := by rw [hw4]; exact heap_alloc_new w3 _
  have b24 := hb3.trans (b4.mono hb3.size)
  have HPK := hide (spacked_any (HP.out.below b24) 9 2 3 2 4)
  have B4 := hide (B2.out.trans (b24.mono B2.out.size))
  have G24 : Hid (w4.heap[w.heap.size]? = _) := (b24.block _ (lt_of_block G2.out)).trans G2.out
  have HW4 := hide hw4
  obtain ⟨m0, m1, m2, m3, m4, m5⟩ := Six.of G4
  obtain ⟨f0, f1, f2, f3, f4⟩ := five_of G24.out
  clear hrep hb3 hw4 b4 G4 b24 d0 d1 d2 d3 d4
  go_upto_region 6 with fail
  rw [← HW4.out]
  go_wp2_with fail
  refine HPK.out.mono ?_
  rintro e w5 ⟨hb5, ⟨id, er, hR, rfl⟩ | ⟨O, hR, hpp, hlv, rfl⟩⟩
  · rw [look_new] at hR; cases hR
  · have hO : chQ O = [[(1, [])]] := by rw [look_new] at hR; exact (Sum.inr.inj hR).symm
    rw [decide_eq_true (pk_new hO hpp)]
    clear hR hpp hlv hO
    go_wp2_with fail
    go_ret
    exact ⟨rfl, B4.out.trans (hb5.mono B4.out.size)⟩
/-! ### no arena -/
set_option maxRecDepth 100000 in
set_option maxHeartbeats 800000 in
theorem lookAt_nil (nd lf inn fl bk : Int) (W : World) : Calls Tryz.prog 55 #[.pointer none, .agg #[.int .i64 nd, .int .i64 lf, .int .i64 inn, .int .i64 fl, .int .i64 bk]] W fun e w' => e = .returned (.tuple #[.pointer none, rpt false 0 1 0 0 0]) ∧ Below W.heap.size W w' := by
  obtain ⟨w1, hw1⟩ : ∃ x, x = W.alloc (.cells #[.int .i64 nd, .int .i64 lf, .int .i64 inn, .int .i64 fl, .int .i64 bk] 24) := ⟨_, rfl⟩
  obtain ⟨w2, hw2⟩ : ∃ x, x = w1.alloc (.cells #[.bool false, .int .i64 0, .int .i64 0, .int .i64 0, .int .i64 0, .int .i64 0] 45) := ⟨_, rfl⟩
  have z1 : w1.heap.size = W.heap.size + 1 := by rw [hw1]; simp
  have b1 : Below W.heap.size W w1 := by rw [hw1]; exact (Below.refl _ _).alloc (Nat.le_refl _) _
  have b12 : Below w1.heap.size w1 w2 := by rw [hw2]; exact (Below.refl _ _).alloc (Nat.le_refl _) _
  have G2 : Hid (w2.heap[W.heap.size + 1]? = some (.cells #[.bool false, .int .i64 0, .int .i64 0, .int .i64 0, .int .i64 0, .int .i64 0] 45 (0, 0))) := by show _ = _; rw [← z1, hw2]; exact heap_alloc_new w1 _
  have B2 := hide (b1.trans (b12.mono b1.size))
  have HW2 : Hid ((W.alloc (.cells #[.int .i64 nd, .int .i64 lf, .int .i64 inn, .int .i64 fl, .int .i64 bk] 24)).alloc (.cells #[.bool false, .int .i64 0, .int .i64 0, .int .i64 0, .int .i64 0, .int .i64 0] 45) = w2) := by show _ = _; rw [hw2, hw1]
  have HWR := hide (swrong_any 0 1 w2)
  clear hw1 hw2 z1 b1 b12
  go_enter Tryz.func55, Tryz.ntmps55
  go_upto_region 1 with fail
  rw [HW2.out]
  go_wp2_with fail
  refine HWR.out.mono ?_
  rintro e w7 ⟨rfl, hb7⟩
  have G27 : Hid (w7.heap[W.heap.size + 1]? = some (.cells #[.bool false, .int .i64 0, .int .i64 0, .int .i64 0, .int .i64 0, .int .i64 0] 45 (0, 0))) := (hb7.block _ (lt_of_block G2.out)).trans G2.out
  have B7 : Hid (Below W.heap.size W w7) := B2.out.trans (hb7.mono B2.out.size)
  obtain ⟨y0, y1, y2, y3, y4, y5⟩ := Six.of G27.out
  have F5 := fun j => frozen_of G27.out j
  simp only [rpt_form]
  clear hb7
  go_wp2_with fail
  (try simp only [Exit.inBlock, Exit.then])
  have G9 := six_block G27.out (.bool false) (.int .i64 0) (.int .i64 1) (.int .i64 0) (.int .i64 0) (.int .i64 0)
  have U9 : Upd (fun b => b = W.heap.size + 1) w7 (six6 w7 (W.heap.size + 1) (.bool false) (.int .i64 0) (.int .i64 1) (.int .i64 0) (.int .i64 0) (.int .i64 0)) := six_upd _ _ _ _ _ _ _ _ _ rfl
  obtain ⟨q0, q1, q2, q3, q4, q5⟩ := Six.of G9
  show bodyPost _ _ _ _ _ (six6 w7 (W.heap.size + 1) (.bool false) (.int .i64 0) (.int .i64 1) (.int .i64 0) (.int .i64 0) (.int .i64 0))
  generalize six6 w7 (W.heap.size + 1) (.bool false) (.int .i64 0) (.int .i64 1) (.int .i64 0) (.int .i64 0) (.int .i64 0) = w9 at *
  exact bodyPost_ret (v := .tuple #[.pointer none, .agg #[.bool false, .int .i64 0, .int .i64 1, .int .i64 0, .int .i64 0, .int .i64 0]]) (by simp [results, Tryz.results55, go_sem, q0, q1, q2, q3, q4, q5]) rfl ⟨rfl, B7.out.trans (U9.below B7.out.size (fun k hk e => by omega))⟩
set_option maxRecDepth 100000 in
set_option maxHeartbeats 800000 in
theorem scheck_nil (nd lf inn fl bk : Int) (W : World) : Calls Tryz.prog 14 #[.pointer none, .agg #[.int .i64 nd, .int .i64 lf, .int .i64 inn, .int .i64 fl, .int .i64 bk]] W fun e w' => e = .returned (rpt false 0 1 0 0 0) ∧ Below W.heap.size W w' := by
  obtain ⟨w1, hw1⟩ : ∃ x, x = W.alloc (.cells #[.int .i64 nd, .int .i64 lf, .int .i64 inn, .int .i64 fl, .int .i64 bk] 24) := ⟨_, rfl⟩
  obtain ⟨w2, hw2⟩ : ∃ x, x = w1.alloc (.cells #[.bool false, .int .i64 0, .int .i64 0, .int .i64 0, .int .i64 0, .int .i64 0] 45) := ⟨_, rfl⟩
  have z1 : w1.heap.size = W.heap.size + 1 := by rw [hw1]; simp
  have b1 : Below W.heap.size W w1 := by rw [hw1]; exact (Below.refl _ _).alloc (Nat.le_refl _) _
  have b12 : Below w1.heap.size w1 w2 := by rw [hw2]; exact (Below.refl _ _).alloc (Nat.le_refl _) _
  have g1 : w1.heap[W.heap.size]? = some (.cells #[.int .i64 nd, .int .i64 lf, .int .i64 inn, .int .i64 fl, .int .i64 bk] 24 (0, 0)) := by rw [hw1]; exact heap_alloc_new W _
  have G1 : Hid (w2.heap[W.heap.size]? = some (.cells #[.int .i64 nd, .int .i64 lf, .int .i64 inn, .int .i64 fl, .int .i64 bk] 24 (0, 0))) := (b12.block _ (by omega)).trans g1
  have G2 : Hid (w2.heap[W.heap.size + 1]? = some (.cells #[.bool false, .int .i64 0, .int .i64 0, .int .i64 0, .int .i64 0, .int .i64 0] 45 (0, 0))) := by show _ = _; rw [← z1, hw2]; exact heap_alloc_new w1 _
  have B2 := hide (b1.trans (b12.mono b1.size))
  have HW2 : Hid ((W.alloc (.cells #[.int .i64 nd, .int .i64 lf, .int .i64 inn, .int .i64 fl, .int .i64 bk] 24)).alloc (.cells #[.bool false, .int .i64 0, .int .i64 0, .int .i64 0, .int .i64 0, .int .i64 0] 45) = w2) := by show _ = _; rw [hw2, hw1]
  have HLK := hide (lookAt_nil nd lf inn fl bk w2)
  obtain ⟨d0, d1, d2, d3, d4⟩ := five_of G1.out
  clear hw1 hw2 z1 b1 b12 g1
  go_enter Tryz.func14, Tryz.ntmps14
  go_upto_region 1 with fail
  rw [HW2.out]
  go_wp2_with fail
  refine HLK.out.mono ?_
  rintro e w3 ⟨rfl, hb3⟩
  simp only [rpt_form]
  obtain ⟨w4, hw4⟩ : ∃ x, x = w3.alloc (.cells #[.bool false, .int .i64 0, .int .i64 1, .int .i64 0, .int .i64 0, .int .i64 0] 45) := ⟨_, rfl⟩
  have b4 : Below w3.heap.size w3 w4 := by rw [hw4]; exact (Below.refl _ _).alloc (Nat.le_refl _) _
  have G4 : w4.heap[w3.heap.size]? = some (.cells #[.bool false, .int .i64 0, .int .i64 1, .int .i64 0, .int .i64 0, .int .i64 0] 45 (0, 0)) := by rw [hw4]; exact heap_alloc_new w3 _
  have b24 := hb3.trans (b4.mono hb3.size)
  have G24 : Hid (w4.heap[W.heap.size + 1]? = _) := (b24.block _ (lt_of_block G2.out)).trans G2.out
  have B4 := hide (B2.out.trans (b24.mono B2.out.size))
  have HW4 := hide hw4
  obtain ⟨m0, m1, m2, m3, m4, m5⟩ := Six.of G4
  obtain ⟨y0, y1, y2, y3, y4, y5⟩ := Six.of G24.out
  have F5 := fun j => frozen_of G24.out j
  clear hb3 hw4 b4 G4 b24 d0 d1 d2 d3 d4
  go_upto_region 2 with fail
  rw [← HW4.out]
  go_wp2_with fail
  (try simp only [Exit.inBlock, Exit.then])
  have G9 := six_block G24.out (.bool false) (.int .i64 0) (.int .i64 1) (.int .i64 0) (.int .i64 0) (.int .i64 0)
  have U9 : Upd (fun b => b = W.heap.size + 1) w4 (six6 w4 (W.heap.size + 1) (.bool false) (.int .i64 0) (.int .i64 1) (.int .i64 0) (.int .i64 0) (.int .i64 0)) := six_upd _ _ _ _ _ _ _ _ _ rfl
  obtain ⟨q0, q1, q2, q3, q4, q5⟩ := Six.of G9
  show bodyPost _ _ _ _ _ (six6 w4 (W.heap.size + 1) (.bool false) (.int .i64 0) (.int .i64 1) (.int .i64 0) (.int .i64 0) (.int .i64 0))
  generalize six6 w4 (W.heap.size + 1) (.bool false) (.int .i64 0) (.int .i64 1) (.int .i64 0) (.int .i64 0) (.int .i64 0) = w9 at *
  exact bodyPost_ret (v := .agg #[.bool false, .int .i64 0, .int .i64 1, .int .i64 0, .int .i64 0, .int .i64 0]) (by simp [results, Tryz.results14, go_sem, q0, q1, q2, q3, q4, q5]) rfl ⟨rfl, B4.out.trans (U9.below B4.out.size (fun k hk e => by omega))⟩
set_option maxRecDepth 100000 in
set_option maxHeartbeats 800000 in
theorem spacked_nil (nd lf inn fl bk : Int) (W : World) : Calls Tryz.prog 42 #[.pointer none, .agg #[.int .i64 nd, .int .i64 lf, .int .i64 inn, .int .i64 fl, .int .i64 bk]] W fun e w' => e = .returned (.bool false) ∧ Below W.heap.size W w' := by
  obtain ⟨w1, hw1⟩ : ∃ x, x = W.alloc (.cells #[.int .i64 nd, .int .i64 lf, .int .i64 inn, .int .i64 fl, .int .i64 bk] 24) := ⟨_, rfl⟩
  have b1 : Below W.heap.size W w1 := by rw [hw1]; exact (Below.refl _ _).alloc (Nat.le_refl _) _
  have g1 : w1.heap[W.heap.size]? = some (.cells #[.int .i64 nd, .int .i64 lf, .int .i64 inn, .int .i64 fl, .int .i64 bk] 24 (0, 0)) := by rw [hw1]; exact heap_alloc_new W _
  have B1 := hide b1
  have HW1 : Hid (W.alloc (.cells #[.int .i64 nd, .int .i64 lf, .int .i64 inn, .int .i64 fl, .int .i64 bk] 24) = w1) := hw1.symm
  have HLK := hide (lookAt_nil nd lf inn fl bk w1)
  obtain ⟨d0, d1, d2, d3, d4⟩ := five_of g1
  clear hw1 b1 g1
  go_enter Tryz.func42, Tryz.ntmps42
  go_upto_region 1 with fail
  rw [HW1.out]
  go_wp2_with fail
  refine HLK.out.mono ?_
  rintro e w3 ⟨rfl, hb3⟩
  have B3 := hide (B1.out.trans (hb3.mono B1.out.size))
  simp only [rpt_form]
  obtain ⟨w4, hw4⟩ : ∃ x, x = w3.alloc (.cells #[.bool false, .int .i64 0, .int .i64 1, .int .i64 0, .int .i64 0, .int .i64 0] 45) := ⟨_, rfl⟩
  have b4 : Below w3.heap.size w3 w4 := by rw [hw4]; exact (Below.refl _ _).alloc (Nat.le_refl _) _
  have G4 : w4.heap[w3.heap.size]? = some (.cells #[.bool false, .int .i64 0, .int .i64 1, .int .i64 0, .int .i64 0, .int .i64 0] 45 (0, 0)) := by rw [hw4]; exact heap_alloc_new w3 _
  have B4 := hide (B3.out.trans (b4.mono B3.out.size))
  have HW4 := hide hw4
  obtain ⟨m0, m1, m2, m3, m4, m5⟩ := Six.of G4
  clear hb3 hw4 b4 G4 d0 d1 d2 d3 d4
  go_upto_region 2 with fail
  rw [← HW4.out]
  go_wp2_with fail
  go_ret
  exact ⟨rfl, B4.out⟩
set_option maxHeartbeats 400000 in
theorem smap_nil (W : World) : Calls Tryz.prog 10 #[.pointer none] W fun e w' => e = .returned (.slice none 0 0) ∧ w' = W := by
  go_enter Tryz.func10, Tryz.ntmps10
  go_wp2_with fail
  go_step3
  go_wp2_with fail
  (try rw [Exit.noGoto_ret])
  go_ret
  exact ⟨rfl, rfl⟩
end Go.Proofs.YtibifkindpgkgaaGreat

namespace Go.Proofs.YtibifkindpgkgaaGreat
open Go.RowKit
set_option maxRecDepth 100000

/-- What laid gives. -/
def LdP (w : World) (L : List AOp) (e : Ending) (w' : World) : Prop :=
  ∃ P AX AY, e = .returned (.tuple #[.pointer (some ⟨P, 0, none⟩), .bool true]) ∧ AW (fun k => k < w.heap.size ∨ k = P) w' P AX AY ((AS.new 40).run L) ((AS.new 40).run L) ∧ Below w.heap.size w w'
set_option maxRecDepth 100000 in
set_option maxHeartbeats 3200000 in
theorem laid_any (aS : Option Addr) (lS cS : Nat) (nd lf inn fl bk : Int) (L : List AOp) (w : World)
    (hL : L.length = lS) (hO : Ops (fun k => k < w.heap.size) w aS L) (hlS : lS * 152 ≤ 140737488355328) :
    Calls Tryz.prog 9 #[.agg #[.slice aS lS cS, .int .i64 nd, .int .i64 lf, .int .i64 inn, .int .i64 fl, .int .i64 bk]] w (LdP w L) := by
  obtain ⟨w0, hw0⟩ : ∃ x, x = w.alloc (.cells #[.slice aS lS cS, .int .i64 nd, .int .i64 lf, .int .i64 inn, .int .i64 fl, .int .i64 bk] 26) := ⟨_, rfl⟩
  have b0 : Below w.heap.size w w0 := by rw [hw0]; exact (Below.refl _ _).alloc (Nat.le_refl _) _
  have G0 : Hid (w0.heap[w.heap.size]? = some (.cells #[.slice aS lS cS, .int .i64 nd, .int .i64 lf, .int .i64 inn, .int .i64 fl, .int .i64 bk] 26 (0, 0))) := by show _ = _; rw [hw0]; exact heap_alloc_new w _
  have HW0 : Hid (w.alloc (.cells #[.slice aS lS cS, .int .i64 nd, .int .i64 lf, .int .i64 inn, .int .i64 fl, .int .i64 bk] 26) = w0) := hw0.symm
  have HBG := hide (begun_good 40 w0 (by decide) (by decide))
  have HO := hide hO
  have HLL := hide hL
  have B0 := hide b0
  have hlS2 : (lS : Int) ≤ 9223372036854775807 := by omega
  clear hO hL hlS hw0 b0
  go_enter Tryz.func9, Tryz.ntmps9
  go_upto_region 1 with fail
  rw [HW0.out]
  go_wp2_with fail
  refine HBG.out.mono ?_
  rintro e w1 ⟨P, AX, AY, rfl, hA, hb⟩
  obtain ⟨K, hK⟩ : ∃ K : Nat → Prop, K = fun k => k < w0.heap.size ∨ k = P := ⟨_, rfl⟩
  rw [← hK] at hA
  have B1 := hide (B0.out.trans (hb.mono B0.out.size))
  have hw0s : w.heap.size < w0.heap.size := lt_of_block G0.out
  have KW : Hid (∀ k, k < w0.heap.size → K k) := fun k hk => by rw [hK]; exact .inl hk
  have KP : Hid (∀ k, K k → k < w0.heap.size ∨ k = P) := fun k hk => by rw [hK] at hk; exact hk
  have H1 : Hid (AW K w1 P AX AY ((AS.new 40).run (L.take 0)) ((AS.new 40).run (L.take 0)) ∧ Upd (fun k => ¬ K k) w1 w1) := ⟨hA, Upd.refl _ _⟩
  have HBX : Hid (∀ W, Upd (fun k => ¬ K k) w1 W → Below w0.heap.size w0 W) := fun W hU => hb.trans (hU.below hb.size (fun k hk e => e (KW.out k hk)))
  have HBW : Hid (∀ W, Upd (fun k => ¬ K k) w1 W → Below w.heap.size w W) := fun W hU => B0.out.trans ((HBX.out W hU).mono B0.out.size)
  have HOPS : Hid (∀ W, Upd (fun k => ¬ K k) w1 W → Ops K W aS L) := fun W hU => (HO.out.kept (⟨(HBW.out W hU).os, (HBW.out W hU).tape, (HBW.out W hU).output, (HBW.out W hU).size, fun k _ hk => (HBW.out W hU).block k (Decidable.byContradiction fun hc => hk hc)⟩ : Upd (fun k => ¬ k < w.heap.size) w W)).mono (fun k hk => KW.out k (by omega))
  have HC0 : Hid (∀ W, Upd (fun k => ¬ K k) w1 W → W.cell? ⟨w.heap.size, 0, none⟩ = some (.slice aS lS cS)) := fun W hU => by
    have : W.heap[w.heap.size]? = _ := ((HBX.out W hU).block _ hw0s).trans G0.out
    rw [cell_of_row _ _ _ _ _ _ this]; rfl
  clear hA hb hK HBG HO hw0s
  go_wp2_with fail
  go_loopw [6] (fun q6 wr => ∃ i : Nat, i ≤ lS ∧ q6 = .int .i64 (i : Int) ∧ Hid (AW K wr P AX AY ((AS.new 40).run (L.take i)) ((AS.new 40).run (L.take i)) ∧ Upd (fun k => ¬ K k) w1 wr)) (fun q6 _ => lS - (intOf q6).toNat)
  case atStart => exact ⟨0, Nat.zero_le _, rfl, H1⟩
  case round =>
    clear H1
    obtain ⟨i, hi, rfl, HI⟩ := hrel
    rename World => wr
    have c0 := HC0.out wr HI.out.2
    by_cases hlt : i < lS
    · have j1 : (i : Int) < (lS : Int) := by omega
      have hiL : i < L.length := by rw [HLL.out]; exact hlt
      have hops := HOPS.out wr HI.out.2
      obtain ⟨ob, oo, hoa, hok, hoc⟩ := hops.c i hiL
      subst hoa
      have oko := hops.ok L[i] (List.getElem_mem hiL)
      have RW := hide (raw_any HI.out.1 L[i] oko)
      have hnx := AS.run_take (AS.new 40) L i hiL
      rw [← hnx] at RW
      generalize L[i] = op at *
      obtain ⟨kd, ra, rb, rw', ch', ⟨lv, ⟨ha, hc, hs⟩, ri, ⟨ka, kc, KL⟩, ⟨va, vc, V⟩, ⟨ca, cc, C⟩⟩⟩ := op
      simp only [AOp.v, Tx.v, TL.v, IL.v] at RW hoc
      have e0 : wr.cell? ⟨ob, oo + i * 11, none⟩ = some (.int .i64 kd) := hoc 0 _ rfl
      have e1 : wr.cell? ⟨ob, oo + i * 11 + 1, none⟩ = some (.int .i64 ra) := hoc 1 _ rfl
      have e2 : wr.cell? ⟨ob, oo + i * 11 + 2, none⟩ = some (.int .i64 rb) := hoc 2 _ rfl
      have e3 : wr.cell? ⟨ob, oo + i * 11 + 3, none⟩ = some (.int .u64 (rw' : Nat)) := hoc 3 _ rfl
      have e4 : wr.cell? ⟨ob, oo + i * 11 + 4, none⟩ = some (.bool ch') := hoc 4 _ rfl
      have e5 : wr.cell? ⟨ob, oo + i * 11 + 5, none⟩ = some (.int .i64 lv) := hoc 5 _ rfl
      have e6 : wr.cell? ⟨ob, oo + i * 11 + 6, none⟩ = some (.slice ha hs.length hc) := hoc 6 _ rfl
      have e7 : wr.cell? ⟨ob, oo + i * 11 + 7, none⟩ = some (.int .i64 ri) := hoc 7 _ rfl
      have e8 : wr.cell? ⟨ob, oo + i * 11 + 8, none⟩ = some (.slice ka KL.length kc) := hoc 8 _ rfl
      have e9 : wr.cell? ⟨ob, oo + i * 11 + 9, none⟩ = some (.slice va V.length vc) := hoc 9 _ rfl
      have e10 : wr.cell? ⟨ob, oo + i * 11 + 10, none⟩ = some (.slice ca C.length cc) := hoc 10 _ rfl
      generalize hs.length = lh at *
      generalize KL.length = lk at *
      generalize V.length = lw at *
      generalize C.length = lc at *
      clear hops hok hoc oko hnx
      go_wp2_with fail
      refine RW.out.mono ?_
      rintro e w3 ⟨rfl, hA, hU⟩
      have HI3 : Hid (AW K w3 P AX AY ((AS.new 40).run (L.take (i + 1))) ((AS.new 40).run (L.take (i + 1))) ∧ Upd (fun k => ¬ K k) w1 w3) := ⟨hA, HI.out.2.trans hU⟩
      clear hA hU e0 e1 e2 e3 e4 e5 e6 e7 e8 e9 e10 RW c0
      go_wp2_with fail
      go_roundw
      case rel => exact ⟨i + 1, by omega, by go_num, HI3⟩
      case measure => simp [intOf]; omega
    · have j1 : ¬ (i : Int) < (lS : Int) := by omega
      have HT : Hid (L.take i = L) := List.take_of_length_le (by rw [HLL.out]; omega)
      have SM := hide (wsame_any HI.out.1)
      rw [HT.out] at SM
      go_wp2_with fail
      refine SM.out.mono ?_
      rintro e w4 ⟨rfl, hA, hU⟩
      have HA4 := hide hA
      have U4 := hide (HI.out.2.trans hU)
      clear hA hU SM
      go_wp2_with fail
      go_ret2
      exact ⟨P, AX, AY, rfl, HA4.out.less (fun k hk => hk.elim (fun e => KW.out k (by have := B0.out.size; omega)) (fun e => by rw [e]; exact HA4.out.kp)) (.inr rfl), HBW.out w4 U4.out⟩
end Go.Proofs.YtibifkindpgkgaaGreat

namespace Go.Proofs.YtibifkindpgkgaaGreat
open Go.RowKit
set_option maxRecDepth 100000

set_option maxHeartbeats 400000 in
theorem rwrong_any (id er : Int) (w : World) : Calls Tryz.prog 78 #[.int .i64 id, .int .i64 er] w fun e w' => e = .returned (rpt false id er 0 0 0) ∧ Below w.heap.size w w' := by
  obtain ⟨w1, hw1⟩ : ∃ x, x = w.alloc (.cells #[.bool false, .int .i64 0, .int .i64 0, .int .i64 0, .int .i64 0, .int .i64 0] 45) := ⟨_, rfl⟩
  have b1 : Below w.heap.size w w1 := by rw [hw1]; exact (Below.refl _ _).alloc (Nat.le_refl _) _
  have g1 : w1.heap[w.heap.size]? = some (.cells #[.bool false, .int .i64 0, .int .i64 0, .int .i64 0, .int .i64 0, .int .i64 0] 45 (0, 0)) := by rw [hw1]; exact heap_alloc_new w _
  have HW1 : Hid (w.alloc (.cells #[.bool false, .int .i64 0, .int .i64 0, .int .i64 0, .int .i64 0, .int .i64 0] 45) = w1) := hw1.symm
  obtain ⟨y0, y1, y2, y3, y4, y5⟩ := Six.of g1
  have F5 := fun j => frozen_of g1 j
  have G6 := six_block g1 (.bool false) (.int .i64 id) (.int .i64 er) (.int .i64 0) (.int .i64 0) (.int .i64 0)
  have U6 : Upd (fun b => b = w.heap.size) w1 (six6 w1 w.heap.size (.bool false) (.int .i64 id) (.int .i64 er) (.int .i64 0) (.int .i64 0) (.int .i64 0)) := six_upd _ _ _ _ _ _ _ _ _ rfl
  have B6 := hide (b1.trans (U6.below b1.size (fun k hk e => by omega)))
  have HG6 := hide G6
  clear b1 g1 hw1 U6 G6
  go_enter Tryz.func78, Tryz.ntmps78
  go_upto_region 1 with fail
  rw [HW1.out]
  go_wp2_with fail
  (try simp only [Exit.inBlock, Exit.then])
  obtain ⟨q0, q1, q2, q3, q4, q5⟩ := Six.of HG6.out
  show bodyPost _ _ _ _ _ (six6 w1 w.heap.size (.bool false) (.int .i64 id) (.int .i64 er) (.int .i64 0) (.int .i64 0) (.int .i64 0))
  exact bodyPost_ret (v := rpt false id er 0 0 0) (by simp [results, Tryz.results78, go_sem, q0, q1, q2, q3, q4, q5, rpt]) rfl ⟨rfl, B6.out⟩
set_option maxRecDepth 100000 in
set_option maxHeartbeats 800000 in
theorem has_any (v : IL) (x : Int) (w : World) (hv : v.Ok w) (hz : v.s.length ≤ 65536) : Calls Tryz.prog 47 #[v.v, .int .i64 x] w fun e w' => e = .returned (.bool (decide (x ∈ v.s))) ∧ w' = w := by
  obtain ⟨va, vc, vs⟩ := v
  simp only at hz
  obtain ⟨D, hD⟩ : ∃ D, D = decide (x ∈ vs) := ⟨_, rfl⟩
  have HD : Hid (D = true ↔ x ∈ vs) := by show _ ↔ _; rw [hD, decide_eq_true_iff]
  simp only [IL.v]
  rw [← hD]
  have HV := hide hv
  obtain ⟨l, hl⟩ : ∃ l, vs.length = l := ⟨_, rfl⟩
  rw [hl] at hz ⊢
  have HL := hide hl
  clear hD hv hl
  go_enter Tryz.func47, Tryz.ntmps47
  go_wp2_with fail
  go_loopw [5] (fun q5 wr => ∃ i : Nat, i ≤ l ∧ q5 = .int .i64 (i : Int) ∧ Hid (∀ j, j < i → vs.getD j 0 ≠ x) ∧ w = wr) (fun q5 _ => l - (intOf q5).toNat)
  case atStart => exact ⟨0, Nat.zero_le _, rfl, fun j hj => absurd hj (Nat.not_lt_zero j), rfl⟩
  case round =>
    obtain ⟨i, hi, rfl, HA, rfl⟩ := hrel
    by_cases hlt : i < l
    · have j1 : (i : Int) < (l : Int) := by omega
      have hiv : i < vs.length := by rw [HL.out]; exact hlt
      obtain ⟨b, o, hva, hcell⟩ := HV.out.r i hiv
      simp only at hva hcell
      subst hva
      obtain ⟨y, hy⟩ : ∃ y, vs.getD i 0 = y := ⟨_, rfl⟩
      rw [hy] at hcell
      have HY := hide hy
      clear hy
      by_cases hyx : y = x
      · subst hyx
        have hT : D = true := HD.out.2 (by rw [← HY.out, List.getD_eq_getElem?_getD, List.getElem?_eq_getElem hiv]; exact List.getElem_mem hiv)
        subst hT
        go_wp2_with fail
        go_ret
        exact ⟨rfl, rfl⟩
      · have hyx2 : (y == x) = false := by rw [beq_eq_false_iff_ne]; exact hyx
        go_wp2_with fail
        go_roundw
        case rel =>
          refine ⟨i + 1, by omega, by go_num, fun j hj => ?_, trivial⟩
          rcases Nat.lt_or_ge j i with h | h
          · exact HA.out j h
          · obtain rfl : j = i := by omega
            rw [HY.out]; exact hyx
        case measure => simp [intOf]; omega
    · have j1 : ¬ (i : Int) < (l : Int) := by omega
      obtain rfl : i = l := by omega
      have hF : D = false := by
        cases D with
        | false => rfl
        | true =>
          obtain ⟨j, hj, hjx⟩ := List.getElem_of_mem (HD.out.1 rfl)
          exact absurd (by rw [List.getD_eq_getElem?_getD, List.getElem?_eq_getElem hj]; exact hjx) (HA.out j (by rw [← HL.out]; exact hj))
      subst hF
      go_wp2_with fail
      go_ret
      exact ⟨rfl, rfl⟩
end Go.Proofs.YtibifkindpgkgaaGreat
