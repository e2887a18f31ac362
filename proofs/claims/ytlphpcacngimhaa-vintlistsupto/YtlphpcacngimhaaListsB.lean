/- VintLists: its last range. -/
import Derived.Test.YtlphpcacngimhaaListsA
namespace Go.Proofs.Ytlphpcacngimhaa
open Go.RowKit Go.Shelf
attribute [local go_sem] Oper.semAt_some

set_option maxRecDepth 100000 in
set_option maxHeartbeats 2000000 in
theorem lists_range (n : Nat) (hn : 8 ≤ n) (a : Option Addr) (len cap : Nat) (zs : List Int) (most : Int) (w W : World) (g : Nat) (f : Nat → Value) (ds : List Deferred) (Bs B26 B27 B28 F In : Nat)
    (hl : zs.length = len) (hm : len ≤ 1048576) (h8 : ∀ c ∈ zs, 0 ≤ c ∧ c ≤ 255) (hr : Row w .u8 a zs) (hbel : Below w.heap.size w W) (hL : Lent W g zs) (hmk : Marks w.heap.size ds W)
    (b0 : Boxed W w.heap.size 23 (.slice a len cap)) (b1 : Boxed W (w.heap.size + 1) 3 (.int .i64 most)) (b2 : Boxed W (w.heap.size + 1 + 1) 4 (.bool false))
    (bs : Boxed W Bs 23 (.slice (some ⟨g, 0, none⟩) len (len + 2))) (b26 : Boxed W B26 42 (.func (.func 32) #[] #[.pointer (some ⟨Bs, 0, none⟩)]))
    (b27 : Boxed W B27 3 (.int .i64 (F : Int))) (b28 : Boxed W B28 3 (.int .i64 (In : Int)))
    (hF : (0 ≤ most ∧ most < ((seq zs).length : Int) ∧ (F : Int) = most) ∨ (¬ (0 ≤ most ∧ most < ((seq zs).length : Int)) ∧ F = (seq zs).length)) (hI : F = 0 ∨ In = (seq zs).length) :
    (partOf 17 (Try.f6.body.getD .skip)).wpIn Fence.wide n Try.prog (ListsEnd n w) { tmps := #[f 0, f 1, .pointer (some ⟨w.heap.size, 0, none⟩), .pointer (some ⟨w.heap.size + 1, 0, none⟩), .pointer (some ⟨w.heap.size + 1 + 1, 0, none⟩), f 5, .slice (some ⟨g, 0, none⟩) len (len + 2), f 7, f 8, f 9, f 10, f 11, f 12, f 13, f 14, f 15, f 16, f 17, f 18, f 19, f 20, f 21, f 22, f 23, f 24, f 25, .pointer (some ⟨B26, 0, none⟩), .pointer (some ⟨B27, 0, none⟩), .pointer (some ⟨B28, 0, none⟩), f 29, f 30, f 31, f 32, f 33, f 34, f 35, f 36, f 37, f 38, f 39, f 40, f 41, f 42, f 43, f 44, f 45, f 46, f 47, f 48, f 49, f 50, f 51, f 52, f 53, f 54, f 55, f 56, f 57, f 58, f 59, f 60, f 61, f 62, f 63, f 64, f 65, f 66, f 67, f 68, f 69, f 70, f 71, f 72, f 73, f 74, f 75, f 76, f 77, f 78, f 79, f 80, f 81, f 82, f 83, f 84, f 85, f 86, f 87, f 88, f 89, f 90, f 91, f 92, f 93, f 94, f 95, f 96, f 97, f 98, f 99, f 100, f 101, f 102, f 103, f 104, f 105, f 106, f 107, f 108, f 109, f 110, f 111, f 112, f 113, f 114, f 115, f 116, f 117, f 118, f 119, f 120, f 121, f 122, f 123, f 124, f 125, f 126, f 127, f 128, f 129, f 130, f 131, f 132, f 133, f 134, f 135, f 136, f 137, f 138, f 139, f 140, f 141, f 142, f 143, f 144, f 145, f 146, f 147, f 148, f 149, f 150, f 151, f 152, f 153, f 154, f 155, f 156, f 157, f 158, f 159, f 160, f 161, f 162, f 163, f 164, f 165, f 166, f 167, f 168, f 169, f 170, f 171, f 172, f 173, f 174, f 175, f 176, f 177, f 178, f 179, f 180, f 181, f 182, f 183, f 184, f 185, f 186, f 187, f 188, f 189, f 190, f 191, f 192, f 193, f 194, f 195, f 196, f 197, f 198, f 199, f 200, f 201, f 202, f 203, f 204, f 205, f 206, f 207, f 208, f 209, f 210, f 211, f 212, f 213, f 214, f 215, f 216, f 217, f 218, f 219, f 220, f 221, f 222, f 223, f 224, f 225, f 226, f 227, f 228, f 229, f 230, f 231, f 232, f 233, f 234, f 235, f 236], defers := ds } W := by
  have h1 : 1 ≤ n := by omega
  have hN := seq_len_le zs h8
  have HR := hide hr
  have HF := hide hF
  have HI := hide hI
  have c26 := ((b26.alloc (.cells #[.int .i64 0] 3)).alloc (.cells #[.int .i64 0] 3)).cell
  clear hr hF hI
  conv => arg 4; whnf
  gi_wp2
  rename_i KK hKK
  obtain ⟨W0, hW0⟩ : ∃ W0, (W.alloc (.cells #[.int .i64 0] 3)).alloc (.cells #[.int .i64 0] 3) = W0 := ⟨_, rfl⟩
  have k0 : Kx [] W W0 := by rw [← hW0]; exact ((Kx.refl _ W).alloc _).alloc _
  have s0 : W0.heap.size = W.heap.size + 1 + 1 := by rw [← hW0]; simp
  have d29 : Boxed W0 W.heap.size 3 (.int .i64 0) := by rw [← hW0]; exact (Boxed.new W _ _).alloc _
  have d30 : Boxed W0 (W.heap.size + 1) 3 (.int .i64 0) := by
    rw [← hW0]; have := Boxed.new (W.alloc (.cells #[.int .i64 0] 3)) 3 (.int .i64 0); rwa [World.size_alloc] at this
  rw [hW0]
  have e0 := k0.box b0 (by simp)
  have e1 := k0.box b1 (by simp)
  have e2 := k0.box b2 (by simp)
  have es := k0.box bs (by simp)
  have e27 := k0.box b27 (by simp)
  have e28 := k0.box b28 (by simp)
  have hB0 : Below w.heap.size w W0 := hbel.trans (k0.below (by simp) hbel.size)
  have hL0 := k0.lent hL (by simp)
  have hM0 := hmk.kx k0 (by simp)
  have l0 := b0.lt
  have l1 := b1.lt
  have l2 := b2.lt
  have ls := bs.lt
  have lg := hL.lt
  have l27 := b27.lt
  have l28 := b28.lt
  clear hW0 c26 k0 b0 b1 b2 bs b26 b27 b28 hbel hL hmk
  refine wpIn_rangeFunc_ownG rfl h1 (gf := 32) (lb := #[.pointer (some ⟨Bs, 0, none⟩)]) rfl trivial (enters_of Try.func32 (by kernel_rfl) rfl)
    (all_stops (n - 1) (by omega) Bs (g + 1) len (len + 2) (some ⟨g, 0, none⟩) zs hl (by omega) h8 W0 (by omega) (by omega) (seq zs).length (Nat.le_refl _) es.cell hL0.row (fun x hx _ => by cases hx; exact Nat.lt_succ_self _))
    Kb.t (Kb.b (by omega) (by omega)) (Below.refl _ _) (fun _ => rfl)
    (fun (pre : List VX) W' => ((Boxed W' W.heap.size 3 (.int .i64 (pre.length : Int)) ∧ Boxed W' (W.heap.size + 1) 3 (.int .i64 (pos zs pre.length : Int))) ∧ pre.map (fun y : VX => y.1) <+: seq zs) ∧ Kx [W.heap.size, W.heap.size + 1] W0 W')
    (fun _ (pre : List VX) _ => ¬ (pre.map (fun y : VX => y.1) <+: seq zs))
    (OwnFrom.and (OwnFrom.and (OwnFrom.and (Own.from (boxed_own _ _ _) _) (Own.from (boxed_own _ _ _) _)) (ownFrom_pure _ _)) (Kx.own _ _ _ (Nat.le_refl _)))
    (fun _ => ownFrom_pure _ _)
    ⟨⟨⟨d29, d30⟩, List.nil_prefix⟩, Kx.refl _ _⟩
    (fun x => { tmps := #[f 0, f 1, .pointer (some ⟨w.heap.size, 0, none⟩), .pointer (some ⟨w.heap.size + 1, 0, none⟩), .pointer (some ⟨w.heap.size + 1 + 1, 0, none⟩), f 5, .slice (some ⟨g, 0, none⟩) len (len + 2), f 7, f 8, f 9, f 10, f 11, f 12, f 13, f 14, f 15, f 16, f 17, f 18, f 19, f 20, f 21, f 22, f 23, f 24, f 25, .pointer (some ⟨B26, 0, none⟩), .pointer (some ⟨B27, 0, none⟩), .pointer (some ⟨B28, 0, none⟩), .pointer (some ⟨W.heap.size, 0, none⟩), .pointer (some ⟨W.heap.size + 1, 0, none⟩), .int .i64 (x.1.1 : Int), .int .u64 (x.1.2 : Int), f 33, f 34, f 35, f 36, f 37, f 38, f 39, f 40, f 41, f 42, f 43, f 44, f 45, f 46, f 47, f 48, f 49, f 50, f 51, f 52, f 53, f 54, f 55, f 56, f 57, f 58, f 59, f 60, f 61, f 62, f 63, f 64, f 65, f 66, f 67, f 68, f 69, f 70, f 71, f 72, f 73, f 74, f 75, f 76, f 77, f 78, f 79, f 80, f 81, f 82, f 83, f 84, f 85, f 86, f 87, f 88, f 89, f 90, f 91, f 92, f 93, f 94, f 95, f 96, f 97, f 98, f 99, f 100, f 101, f 102, f 103, f 104, f 105, f 106, f 107, f 108, f 109, f 110, f 111, f 112, f 113, f 114, f 115, f 116, f 117, f 118, f 119, f 120, f 121, f 122, f 123, f 124, f 125, f 126, f 127, f 128, f 129, f 130, f 131, f 132, f 133, f 134, f 135, f 136, f 137, f 138, f 139, f 140, f 141, f 142, f 143, f 144, f 145, f 146, f 147, f 148, f 149, f 150, f 151, f 152, f 153, f 154, f 155, f 156, .func (.func 32) #[] #[.pointer (some ⟨Bs, 0, none⟩)], .int .i64 (x.1.1 : Int), .int .u64 (x.1.2 : Int), f 160, f 161, f 162, f 163, f 164, f 165, f 166, f 167, f 168, f 169, f 170, f 171, f 172, f 173, f 174, f 175, f 176, f 177, f 178, f 179, f 180, f 181, f 182, f 183, f 184, f 185, f 186, f 187, f 188, f 189, f 190, f 191, f 192, f 193, f 194, f 195, f 196, f 197, f 198, f 199, f 200, f 201, f 202, f 203, f 204, f 205, f 206, f 207, f 208, f 209, f 210, f 211, f 212, f 213, f 214, f 215, f 216, f 217, f 218, f 219, f 220, f 221, f 222, f 223, f 224, f 225, f 226, f 227, f 228, f 229, f 230, f 231, f 232, f 233, f 234, f 235, f 236], defers := [] }) ?assign ?body ?done ?stop
  case assign =>
    intro l x W' K hK
    simp only [vxs]
    gi_wp2
    exact hK
  case body =>
    rintro l pre x W' ⟨⟨⟨hO, hX⟩, hpre⟩, hK⟩ hlt
    have hx2 := x.2
    obtain ⟨m, hm64, hget, en, ee, er, hplt, hple⟩ := pos_at zs h8 pre.length hlt
    have c0 := (hK.box e0 (by simp; omega)).cell
    have b2x := hK.box e2 (by simp; omega)
    have c2 := b2x.cell
    have f2 := b2x.frozen
    have bsx := hK.box es (by simp; omega)
    have cO := hO.cell
    have fO := hO.frozen
    have cX := hX.cell
    have fX := hX.frozen
    have hBx : Below w.heap.size w W' := hB0.trans (hK.below (by simp; omega) hB0.size)
    have hRD := rread_any a len cap (pos zs pre.length : Int) zs W' hl (by unfold maxLen; omega) (HR.out.below2 hBx) (fits8_of_mem h8)
    rw [en, ee, er] at hRD
    have HRD := hide (CallsIn.inRound l ((callsIn_wide (n := n - 1 - 1 - 1)).2 hRD))
    have HPRE := hide hpre
    have HGET := hide hget
    have HK := hide hK
    clear hRD hget hpre hK en ee er hBx b2x
    generalize hp1 : pos zs (pre.length + 1) = p1 at *
    have HP1 := hide hp1
    clear hp1
    generalize pos zs pre.length = p0 at *
    have hplen : (pre.map (·.1)).length = pre.length := by simp
    have bad : ¬ x.1 = (p0, m) → ¬ ((pre ++ [x]).map (·.1) <+: seq zs) := fun hne hpp => by
      rw [List.map_append] at hpp
      have hg2 := prefix_get hpp
      rw [hplen, HGET.out] at hg2
      exact hne (Option.some.inj hg2).symm
    have BAD := hide bad
    clear bad
    by_cases hma : x.1.1 = p0
    · by_cases hmb : x.1.2 = m
      · have t1 : ((x.1.1 : Int) != (p0 : Int)) = false := by rw [hma]; simp
        have t2 : ((x.1.2 : Int) != (m : Int)) = false := by rw [hmb]; simp
        have HX : Hid (x.1 = (p0, m)) := by show _ = _; rw [← hma, ← hmb]
        clear hma hmb BAD
        gi_wp2
        refine ⟨trivial, fun _ => by omega, HRD.out.mono ?_⟩
        rintro e w6 ⟨rfl, hw6⟩
        have hw6' := hw6.symm
        subst hw6'
        gi_wp2
        have hX2 := (hX.set (.int .i64 (p1 : Int))).other (B' := W.heap.size) (by omega) (.int .i64 ((pre.length : Int) + 1))
        have hO2 := (hO.other (B' := W.heap.size + 1) (by omega) (.int .i64 (p1 : Int))).set (.int .i64 ((pre.length : Int) + 1))
        have hS2 := (bsx.other (B' := W.heap.size + 1) (by omega) (.int .i64 (p1 : Int))).other (B' := W.heap.size) (by omega) (.int .i64 ((pre.length : Int) + 1))
        have hb2 : Below (g + 1) W' ((W'.setCell ⟨W.heap.size + 1, 0, none⟩ (.int .i64 (p1 : Int))).setCell ⟨W.heap.size, 0, none⟩ (.int .i64 ((pre.length : Int) + 1))) := ((Below.refl _ W').setCell (p := ⟨W.heap.size + 1, 0, none⟩) (by simp; omega) _).setCell (p := ⟨W.heap.size, 0, none⟩) (by simp; omega) _
        refine ⟨((KeepsOthers.setCell _ _ _).trans (KeepsOthers.setCell _ _ _)).from _, ⟨hb2, (show _ = _ from hS2).trans (show _ = _ from bsx).symm⟩, ⟨⟨⟨?_, ?_⟩, ?_⟩, (HK.out.setCell (by simp) _).setCell (by simp) _⟩⟩
        · rw [List.length_append, List.length_singleton, Int.natCast_add]
          exact hO2
        · rw [List.length_append, List.length_singleton, HP1.out]
          exact hX2
        · rw [List.map_append]
          refine prefix_snoc HPRE.out ?_
          rw [hplen, HGET.out]
          show some _ = some x.1
          rw [HX.out]
      · have t1 : ((x.1.1 : Int) != (p0 : Int)) = false := by rw [hma]; simp
        have t2 : ((x.1.2 : Int) != (m : Int)) = true := by rw [bne_iff_ne]; omega
        have HX : Hid (¬ x.1 = (p0, m)) := fun e => hmb (by rw [e])
        clear hma hmb
        gi_wp2
        refine ⟨trivial, fun _ => by omega, HRD.out.mono ?_⟩
        rintro e w6 ⟨rfl, hw6⟩
        have hw6' := hw6.symm
        subst hw6'
        gi_wp2
        exact ⟨(KeepsOthers.setCell _ _ _).from _, BAD.out HX.out⟩
    · have t1 : ((x.1.1 : Int) != (p0 : Int)) = true := by rw [bne_iff_ne]; omega
      have HX : Hid (¬ x.1 = (p0, m)) := fun e => hma (by rw [e])
      clear hma
      gi_wp2
      refine ⟨trivial, fun _ => by omega, HRD.out.mono ?_⟩
      rintro e w6 ⟨rfl, hw6⟩
      have hw6' := hw6.symm
      subst hw6'
      gi_wp2
      exact ⟨(KeepsOthers.setCell _ _ _).from _, BAD.out HX.out⟩
  case done =>
    rintro D ys W' hD hys ⟨⟨⟨hO, hX⟩, hpre⟩, hK⟩ hDD
    have hyl : ys.length = (seq zs).length := by have := congrArg List.length hys; simpa using this
    rw [hyl] at hO hX
    have hM1 := hM0.kx hK (fun s hs => by
      simp at hs
      rcases hs with rfl | rfl
      · exact ⟨_, _, d29⟩
      · exact ⟨_, _, d30⟩)
    refine hKK _ _ ?_
    exact lists_last n h1 a len cap zs most w W' g (fun i => if i = 26 then .pointer (some ⟨B26, 0, none⟩) else if i = 157 then .func (.func 32) #[] #[.pointer (some ⟨Bs, 0, none⟩)] else f i)
      _ B27 B28 W.heap.size (W.heap.size + 1) F In (seq zs).length (pos zs (seq zs).length) hl hm h8 HR.out (hB0.trans (hK.below (by simp; omega) hB0.size)) (hK.lent hL0 (by simp; omega))
      (hM0.push hM1 hD hB0.size hDD) (hK.box e0 (by simp; omega)) (hK.box e1 (by simp; omega)) (hK.box e2 (by simp; omega)) (hK.box e27 (by simp; omega)) (hK.box e28 (by simp; omega)) hO hX (pos_end zs h8) HF.out HI.out
  case stop =>
    rintro D c pre W' _ hsp hix _
    exact absurd hsp hix

end Go.Proofs.Ytlphpcacngimhaa
