/- VintLists: one round of its loop; the loop. -/
import Derived.Test.YtlphpcacngimhaaListsD
namespace Go.Proofs.Ytlphpcacngimhaa
open Go.RowKit Go.Shelf
attribute [local go_sem] Oper.semAt_some

theorem inBlock_exit {id : Nat} {Q : Exit → Act → World → Prop} {act : Act} {X : World} (h : Q .normal act X) : Exit.inBlock id Q (.exit id) act X := by
  simp only [Exit.inBlock, if_true]
  exact h

def firstOf : Code → Code
  | .seq x _ => x
  | c => c
def loopOf : Code → Code
  | .seq _ (.block _ (.loop c)) => c
  | c => c

set_option maxRecDepth 100000 in
set_option maxHeartbeats 2000000 in
theorem lists_round (n : Nat) (hn : 10 ≤ n) (a : Option Addr) (len cap : Nat) (zs : List Int) (most : Int) (w X : World) (g c : Nat) (act : Act) (Q : Exit → Act → World → Prop)
    (hl : zs.length = len) (hm : len ≤ 1048576) (h8 : ∀ c ∈ zs, 0 ≤ c ∧ c ≤ 255) (hr : Row w .u8 a zs) (hat : LAt a len cap zs most w g c act X) (hQ : ∀ act X', LEnd a len cap zs most w g act X' → Q (.exit 2) act X') :
    (loopOf (firstOf (partOf 12 (Try.f6.body.getD .skip)))).wpIn Fence.wide n Try.prog (Exit.then (fun act' X' => LAt a len cap zs most w g (c + 1) act' X') Q) act X := by
  obtain ⟨f, ds, Bc, Bi, rfl, hmk, hw, bc, bi, o1, o2, o3, hcN, hc20⟩ := hat
  have h1 : 1 ≤ n := by omega
  have hN := seq_len_le zs h8
  have hpl := pos_le zs h8 c hcN
  have cC := bc.cell
  have cI := bi.cell
  have c0 := hw.b0.cell
  have HQ := hide hQ
  have HM := hide hmk
  have HW := hide hw
  have hRD := rread_any a len cap (pos zs c : Int) zs X hl (by unfold maxLen; omega) (hr.below2 hw.bel) (fits8_of_mem h8)
  clear hQ hmk hw
  conv => arg 4; whnf
  by_cases hp : pos zs c < len
  · by_cases hcl : c = (seq zs).length
    · have he := pos_end zs h8
      rw [← hcl] at he
      have he' : (rdErr zs (pos zs c : Int) != 0) = true := by simpa using he
      have HRD := hide ((callsIn_wide (n := n - 1)).2 hRD)
      clear he hRD
      generalize rdErr zs (pos zs c : Int) = er at *
      generalize rdEnd zs (pos zs c : Int) = en at *
      generalize rdNum zs (pos zs c : Int) = nu at *
      generalize pos zs c = p0 at *
      gi_wp2
      refine ⟨trivial, HRD.out.mono ?_⟩
      rintro e w1 ⟨rfl, hw1⟩
      have hw1' := hw1.symm
      subst hw1'
      gi_wp2
      have k1 : Kx [] X (X.alloc (.cells #[.int .u64 nu] 25)) := (Kx.refl _ X).alloc _
      exact HQ.out _ _ (LEnd.mk rfl rfl rfl rfl rfl (HM.out.kx k1 (by simp)) (HW.out.kx k1 (by simp)))
    · obtain ⟨m, hm64, hget, en, ee, er, hplt, hple⟩ := pos_at zs h8 c (by omega)
      rw [en, ee, er] at hRD
      have HRD := hide ((callsIn_wide (n := n - 1)).2 hRD)
      have HGET := hide hget
      clear hRD hget en ee er
      generalize hp1 : pos zs (c + 1) = p1 at *
      have HP1 := hide hp1
      clear hp1
      generalize pos zs c = p0 at *
      gi_wp2
      refine ⟨trivial, HRD.out.mono ?_⟩
      rintro e w1 ⟨rfl, hw1⟩
      have hw1' := hw1.symm
      subst hw1'
      clear HRD hw1
      gi_wp2
      refine ⟨trivial, ((callsIn_wide (n := n - 1)).2 (all_in (some ⟨g, 0, none⟩) len (len + 2) _)).mono ?_⟩
      rintro e w2 ⟨rfl, rfl⟩
      gi_wp2
      rename_i Q1 K1 hK1 KK hKK
      obtain ⟨W0, hW0⟩ : ∃ W0, ((X.alloc (.cells #[.int .u64 (m : Int)] 25)).alloc (.cells #[.int .i64 0] 3)).alloc (.cells #[.slice (some ⟨g, 0, none⟩) len (len + 2)] 23) = W0 := ⟨_, rfl⟩
      have k0 : Kx [] X W0 := by rw [← hW0]; exact (((Kx.refl _ X).alloc _).alloc _).alloc _
      have s0 : W0.heap.size = X.heap.size + 1 + 1 + 1 := by rw [← hW0]; simp
      have dN : Boxed W0 X.heap.size 25 (.int .u64 (m : Int)) := by rw [← hW0]; exact ((Boxed.new X _ _).alloc _).alloc _
      have dK : Boxed W0 (X.heap.size + 1) 3 (.int .i64 0) := by
        rw [← hW0]
        have := (Boxed.new (X.alloc (.cells #[.int .u64 (m : Int)] 25)) 3 (.int .i64 0)).alloc (.cells #[.slice (some ⟨g, 0, none⟩) len (len + 2)] 23)
        rwa [World.size_alloc] at this
      have dS : Boxed W0 (X.heap.size + 1 + 1) 23 (.slice (some ⟨g, 0, none⟩) len (len + 2)) := by
        rw [← hW0]
        have := Boxed.new ((X.alloc (.cells #[.int .u64 (m : Int)] 25)).alloc (.cells #[.int .i64 0] 3)) 23 (.slice (some ⟨g, 0, none⟩) len (len + 2))
        rwa [World.size_alloc, World.size_alloc] at this
      rw [hW0]
      have lc := bc.lt
      have li := bi.lt
      have eC := k0.box bc (by simp)
      have eI := k0.box bi (by simp)
      have w0 := HW.out.kx k0 (by simp)
      have m0 := HM.out.kx k0 (by simp)
      have lw := HW.out.bel.size
      clear hW0 k0 bc bi cC cI c0 HW HM
      refine wpIn_rangeFunc_ownG rfl h1 (gf := 32) (lb := #[.pointer (some ⟨X.heap.size + 1 + 1, 0, none⟩)]) rfl trivial (enters_of Try.func32 (by kernel_rfl) rfl)
        (all_stops (n - 1) (by omega) (X.heap.size + 1 + 1) (g + 1) len (len + 2) (some ⟨g, 0, none⟩) zs hl (by omega) h8 W0 (by omega) (by omega) (seq zs).length (Nat.le_refl _) dS.cell w0.lent.row (fun x hx _ => by cases hx; exact Nat.lt_succ_self _))
        Kb.t (Kb.b (by omega) (by omega)) (Below.refl _ _) (fun _ => rfl)
        (fun (pre : List VX) W' => (Boxed W' (X.heap.size + 1) 3 (.int .i64 (pre.length : Int)) ∧ pre.length ≤ c) ∧ Kx [X.heap.size + 1] W0 W')
        (fun cd (pre : List VX) W' => pre.map (fun y : VX => y.1) <+: seq zs → (Boxed W' (X.heap.size + 1) 3 (.int .i64 (c : Int)) ∧ cd = .exit 4) ∧ Kx [X.heap.size + 1] W0 W')
        (OwnFrom.and (OwnFrom.and (Own.from (boxed_own _ _ _) _) (ownFrom_pure _ _)) (Kx.own _ _ _ (Nat.le_refl _)))
        (fun cd => ownFrom_imp _ (OwnFrom.and (OwnFrom.and (Own.from (boxed_own _ _ (fun _ => .int .i64 (c : Int))) _) (ownFrom_pure _ _)) (Kx.own _ _ _ (Nat.le_refl _))))
        ⟨⟨dK, Nat.zero_le _⟩, Kx.refl _ _⟩
        (fun x => { tmps := #[f 0, f 1, .pointer (some ⟨w.heap.size, 0, none⟩), .pointer (some ⟨w.heap.size + 1, 0, none⟩), .pointer (some ⟨w.heap.size + 1 + 1, 0, none⟩), f 5, .slice (some ⟨g, 0, none⟩) len (len + 2), f 7, f 8, f 9, f 10, f 11, f 12, f 13, f 14, f 15, f 16, f 17, .pointer (some ⟨Bc, 0, none⟩), .pointer (some ⟨Bi, 0, none⟩), .pointer (some ⟨X.heap.size, 0, none⟩), .int .i64 (p1 : Int), .int .i64 0, .pointer (some ⟨X.heap.size + 1, 0, none⟩), .int .i64 (x.1.1 : Int), .int .u64 (x.1.2 : Int), f 26, f 27, f 28, f 29, f 30, f 31, f 32, f 33, f 34, f 35, f 36, f 37, f 38, f 39, f 40, f 41, f 42, f 43, f 44, f 45, f 46, f 47, f 48, f 49, f 50, f 51, f 52, f 53, f 54, f 55, f 56, f 57, f 58, f 59, f 60, f 61, f 62, f 63, f 64, f 65, f 66, f 67, f 68, f 69, f 70, f 71, f 72, f 73, f 74, f 75, f 76, f 77, f 78, f 79, f 80, f 81, f 82, f 83, f 84, f 85, f 86, f 87, f 88, f 89, f 90, f 91, f 92, f 93, f 94, f 95, .int .i64 (p0 : Int), .slice (some ⟨g, 0, none⟩) len (len + 2), .int .i64 (len : Int), .bool true, .tuple #[.int .u64 (m : Int), .int .i64 (p1 : Int), .int .i64 0], .slice a len cap, .int .i64 (p0 : Int), .tuple #[.int .u64 (m : Int), .int .i64 (p1 : Int), .int .i64 0], .int .u64 (m : Int), .int .i64 (p1 : Int), .int .i64 0, .int .i64 0, .bool false, .slice (some ⟨g, 0, none⟩) len (len + 2), .func (.func 32) #[] #[.pointer (some ⟨X.heap.size + 1 + 1, 0, none⟩)], .int .i64 (x.1.1 : Int), .int .u64 (x.1.2 : Int), f 113, f 114, f 115, f 116, f 117, f 118, f 119, f 120, f 121, f 122, f 123, f 124, f 125, f 126, f 127, f 128, f 129, f 130, f 131, f 132, f 133, f 134, f 135, f 136, f 137, f 138, f 139, f 140, f 141, f 142, f 143, f 144, f 145, f 146, f 147, f 148, f 149, f 150, f 151, f 152, f 153, f 154, f 155, f 156, f 157, f 158, f 159, f 160, f 161, f 162, f 163, f 164, f 165, f 166, f 167, f 168, f 169, f 170, f 171, f 172, f 173, f 174, f 175, f 176, f 177, f 178, f 179, f 180, f 181, f 182, f 183, f 184, f 185, f 186, f 187, f 188, f 189, f 190, f 191, f 192, f 193, f 194, f 195, f 196, f 197, f 198, f 199, f 200, f 201, f 202, f 203, f 204, f 205, f 206, f 207, f 208, f 209, f 210, f 211, f 212, f 213, f 214, f 215, f 216, f 217, f 218, f 219, f 220, f 221, f 222, f 223, f 224, f 225, f 226, f 227, f 228, f 229, f 230, f 231, f 232, f 233, f 234, f 235, f 236], defers := [] }) ?assign ?body ?done ?stop
      case assign =>
        intro l x W' K hK
        simp only [vxs]
        gi_wp2
        exact hK
      case body =>
        rintro l pre x W' ⟨⟨hk, hle⟩, hK⟩ hlt
        have hx2 := x.2
        have cK := hk.cell
        have fK := hk.frozen
        have cC := (hK.box eC (by simp; omega)).cell
        have cI := (hK.box eI (by simp; omega)).cell
        have cN := (hK.box dN (by simp)).cell
        have b2 := hK.box w0.b2 (by simp; omega)
        have c2 := b2.cell
        have f2 := b2.frozen
        have bS := hK.box dS (by simp)
        have HK := hide hK
        clear hK b2
        by_cases hkc : pre.length = c
        · have t0 : ((pre.length : Int) == (c : Int)) = true := by rw [hkc]; simp
          have hplen : (pre.map (fun y : VX => y.1)).length = c := by simp [hkc]
          have bad : ¬ x.1 = (p0, m) → ¬ ((pre ++ [x]).map (fun y : VX => y.1) <+: seq zs) := fun hne hpp => by
            rw [List.map_append] at hpp
            have hg2 := prefix_get hpp
            rw [hplen, HGET.out] at hg2
            exact hne (Option.some.inj hg2).symm
          have BAD := hide bad
          have HKC := hide hkc
          clear bad hplen
          by_cases hma : x.1.1 = p0
          · by_cases hmb : x.1.2 = m
            · have t1 : ((x.1.1 : Int) != (p0 : Int)) = false := by rw [hma]; simp
              have t2 : ((x.1.2 : Int) != (m : Int)) = false := by rw [hmb]; simp
              clear hma hmb BAD hkc
              gi_wp2
              exact ⟨KeepsFrom.refl _ _, fun _ => ⟨⟨by have := hk; rw [HKC.out] at this; exact this, rfl⟩, HK.out⟩⟩
            · have t1 : ((x.1.1 : Int) != (p0 : Int)) = false := by rw [hma]; simp
              have t2 : ((x.1.2 : Int) != (m : Int)) = true := by rw [bne_iff_ne]; omega
              have HX : Hid (¬ x.1 = (p0, m)) := fun e => hmb (by rw [e])
              clear hma hmb hkc
              gi_wp2
              exact ⟨(KeepsOthers.setCell _ _ _).from _, fun hpp => absurd hpp (BAD.out HX.out)⟩
          · have t1 : ((x.1.1 : Int) != (p0 : Int)) = true := by rw [bne_iff_ne]; omega
            have HX : Hid (¬ x.1 = (p0, m)) := fun e => hma (by rw [e])
            clear hma hkc
            gi_wp2
            exact ⟨(KeepsOthers.setCell _ _ _).from _, fun hpp => absurd hpp (BAD.out HX.out)⟩
        · have t0 : ((pre.length : Int) == (c : Int)) = false := by rw [beq_eq_false_iff_ne]; omega
          have hle2 : pre.length + 1 ≤ c := by omega
          clear hkc
          gi_wp2
          have bS' := bS.other (B' := X.heap.size + 1) (by omega) (.int .i64 ((pre.length : Int) + 1))
          refine ⟨(KeepsOthers.setCell _ _ _).from _, ⟨(Below.refl _ W').setCell (p := ⟨X.heap.size + 1, 0, none⟩) (by simp; omega) _, (show _ = _ from bS').trans (show _ = _ from bS).symm⟩, ⟨⟨?_, by simpa using hle2⟩, HK.out.setCell (by simp) _⟩⟩
          rw [List.length_append, List.length_singleton, Int.natCast_add]
          exact hk.set _
      case done =>
        rintro D ys W' hD hys ⟨⟨hk, hle⟩, hK⟩ hDD
        have hyl : ys.length = (seq zs).length := by have := congrArg List.length hys; simpa using this
        omega
      case stop =>
        rintro D cd pre W' hD hsp hix hDD
        obtain ⟨⟨hk, rfl⟩, hK⟩ := hix hsp
        refine wpIn_exit (hKK _ _ ?_)
        have cK := hk.cell
        have bC := hK.box eC (by simp; omega)
        have bI := hK.box eI (by simp; omega)
        have cC := bC.cell
        have fC := bC.frozen
        have cI := bI.cell
        have fI := bI.frozen
        have HDD := hide hDD
        have HSP := hide hsp
        have HK := hide hK
        clear hDD hsp hix hK
        have ltD := (Array.getElem?_eq_some_iff.1 HDD.out).1
        have sK := HK.out.size
        obtain ⟨W2, hW2⟩ : ∃ W2, (W'.setCell ⟨Bc, 0, none⟩ (.int .i64 ((c : Int) + 1))).setCell ⟨Bi, 0, none⟩ (.int .i64 (p1 : Int)) = W2 := ⟨_, rfl⟩
        have kA : Kx [Bc, Bi] W' W2 := by rw [← hW2]; exact ((Kx.refl _ W').setCell (by simp) _).setCell (by simp) _
        have kB : Kx [X.heap.size + 1, Bc, Bi] W0 W2 := (HK.out.mono (by simp)).trans (kA.mono (by simp))
        have mk1 := m0.kx kB (fun s hs => by
          simp at hs
          rcases hs with rfl | rfl | rfl
          · exact ⟨_, _, dK⟩
          · exact ⟨_, _, eC⟩
          · exact ⟨_, _, eI⟩)
        have mk2 := m0.push mk1 hD (by omega) ((kA.block D ltD (by simp; omega)).trans HDD.out)
        have lw2 := w0.kx kB (by simp; omega)
        have qC : Boxed W2 Bc 3 (.int .i64 ((c : Int) + 1)) := by rw [← hW2]; exact (bC.set _).other (by omega) _
        have qI : Boxed W2 Bi 3 (.int .i64 (p1 : Int)) := by rw [← hW2]; exact (bI.other (by omega) _).set _
        have s2 : W2.heap.size = W'.heap.size := by rw [← hW2]; simp [World.setCell]
        have HMK := hide mk2
        have HLW := hide lw2
        have HQC := hide qC
        have HQI := hide qI
        have HW2 := hide hW2
        clear hW2 kB mk1 mk2 lw2 qC qI kA
        dsimp only
        by_cases hgt : c = 20
        · have tg : (20 : Int) < (c : Int) + 1 := by omega
          clear hgt
          gi_wp2
          rw [HW2.out]
          exact HQ.out _ _ (LEnd.mk rfl rfl rfl rfl rfl HMK.out HLW.out)
        · have tg : ¬ (20 : Int) < (c : Int) + 1 := by omega
          have hc19 : c + 1 ≤ 20 := by omega
          clear hgt
          gi_wp2
          rw [HW2.out]
          have kC : Kx [] W2 (W2.alloc (.cells #[.int .i64 (p1 : Int)] 3)) := (Kx.refl _ W2).alloc _
          have qN := Boxed.new W2 3 (.int .i64 (p1 : Int))
          rw [s2] at qN
          refine LAt.mk (Bc := Bc) (Bi := W'.heap.size) rfl rfl rfl rfl rfl rfl rfl (HMK.out.kx kC (by simp)) (HLW.out.kx kC (by simp)) ?_ ?_ o1 o2 (by omega) (by omega) hc19
          · rw [Int.natCast_add]
            exact kC.box HQC.out (by simp)
          · rw [HP1.out]
            exact qN
  · generalize pos zs c = p0 at *
    gi_wp2
    exact HQ.out _ _ (LEnd.mk rfl rfl rfl rfl rfl HM.out HW.out)

theorem lists_rounds (n : Nat) (hn : 10 ≤ n) (a : Option Addr) (len cap : Nat) (zs : List Int) (most : Int) (w : World) (g : Nat) (Q : Exit → Act → World → Prop)
    (hl : zs.length = len) (hm : len ≤ 1048576) (h8 : ∀ c ∈ zs, 0 ≤ c ∧ c ≤ 255) (hr : Row w .u8 a zs) (hQ : ∀ act X', LEnd a len cap zs most w g act X' → Q (.exit 2) act X') : ∀ (m c : Nat) (act : Act) (X : World), LAt a len cap zs most w g c act X → c + m = 21 →
    Code.roundsIn Fence.wide n Try.prog (loopOf (firstOf (partOf 12 (Try.f6.body.getD .skip)))) Q m act X
  | 0, c, act, X, h, hc => by
    obtain ⟨_, _, _, _, _, _, _, _, _, _, _, _, _, h20⟩ := h
    omega
  | m + 1, c, act, X, h, hc => by
    rw [roundsIn_succ]
    refine wpIn_mono (lists_round n hn a len cap zs most w X g c act Q hl hm h8 hr h hQ) (fun e act' X' he => ?_)
    cases e with
    | normal => exact lists_rounds n hn a len cap zs most w g Q hl hm h8 hr hQ m (c + 1) act' X' he (by omega)
    | exit id => exact he
    | goto t => exact he
    | ret => exact he
    | panic ch => exact he
    | outgrown => exact he

end Go.Proofs.Ytlphpcacngimhaa
