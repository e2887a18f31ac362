/- ArenaHolder: the walk. -/
import Derived.Test.YtfpogjgbmibmcaaALaw9
namespace Go.Proofs.Ytfpogjgbmibmcaa
open Go.RowKit

set_option maxRecDepth 100000 in
set_option maxHeartbeats 6400000 in
theorem arenaHolder_any (aS aW : Option Addr) (lS cS lW cW : Nat) (id : Int) (ch : Bool) (L : List AOp) (ws : List Int) (w : World)
    (hL : L.length = lS) (hO : Ops (fun k => k < w.heap.size) w aS L) (hlS : lS * 152 ≤ 140737488355328) (hW : ws.length = lW) (hlW : lW * 8 ≤ 140737488355328) (hR : Row w .u64 aW ws) (hwb : ∀ i, 0 ≤ ws.getD i 0 ∧ ws.getD i 0 < 18446744073709551616) (h1 : -9223372036854775808 ≤ id) (h2 : id ≤ 9223372036854775807) :
    Calls Try.prog 5 #[.agg #[.slice aS lS cS, .int .i64 id, .slice aW lW cW, .bool ch]] w fun e w' => e = .returned (.bool true) ∧ Below w.heap.size w w' := by
  obtain ⟨w0, hw0⟩ : ∃ w0, w0 = w.alloc (.cells #[.slice aS lS cS, .int .i64 id, .slice aW lW cW, .bool ch] 55) := ⟨_, rfl⟩
  have b0 : Below w.heap.size w w0 := by rw [hw0]; exact (Below.refl _ _).alloc (Nat.le_refl _) _
  have z0 : w0.heap.size = w.heap.size + 1 := by rw [hw0]; simp
  have HBG := hide (begun_good 20 w0 (by decide) (by decide))
  have HO0 : Hid (∀ K : Nat → Prop, (∀ k, k < w.heap.size → K k) → ∀ W, Below w.heap.size w W → Ops K W aS L) := fun K hK W hB => (hO.kept (hB.size |> fun _ => (⟨hB.os, hB.tape, hB.output, hB.size, fun k _ hk => hB.block k (Decidable.byContradiction fun hc => hk hc)⟩ : Upd (fun k => ¬ k < w.heap.size) w W))).mono hK
  have HR0 : Hid (∀ W, Below w.heap.size w W → Row W .u64 aW ws) := fun W hB => hR.below2 hB
  have HW := hide hw0
  have HWB := hide hwb
  have HLL := hide hL
  have HWL := hide hW
  have B0 := hide b0
  have Z0 := hide z0
  have hlS2 : (lS : Int) ≤ 9223372036854775807 := by omega
  have hlW2 : (lW : Int) ≤ 9223372036854775807 := by omega
  clear hO hR hwb hL hW hw0 b0 z0 hlS hlW
  go_enter Try.func5, Try.ntmps5
  go_wp2_with fail
  rw [← HW.out]
  refine HBG.out.mono ?_
  rintro e w1 ⟨P, AX, AY, rfl, hA, hb⟩
  have B1 := hide (B0.out.trans (hb.mono B0.out.size))
  obtain ⟨K, hK⟩ : ∃ K : Nat → Prop, K = fun k => k < w0.heap.size ∨ k = P := ⟨_, rfl⟩
  rw [← hK] at hA
  have KW : Hid (∀ k, k < w.heap.size → K k) := fun k hk => by have := Z0.out; rw [hK]; exact .inl (by omega)
  have H1 : Hid (AW K w1 P AX AY ((AS.new 20).run (L.take 0)) ((AS.new 20).run (L.take 0)) ∧ Below w.heap.size w w1) := ⟨hA, B1.out⟩
  have HSTEP : Hid (∀ W W', Below w.heap.size w W → Upd (fun k => ¬ K k) W W' → Below w.heap.size w W') := fun W W' hB hU => hB.trans (hU.below hB.size (fun k hk e => e (KW.out k hk)))
  clear hA hb hK HBG B1
  go_wp2_with fail
  go_loopw [9] (fun q9 wr => ∃ i : Nat, i ≤ lS ∧ q9 = .int .i64 (i : Int) ∧ Hid (AW K wr P AX AY ((AS.new 20).run (L.take i)) ((AS.new 20).run (L.take i)) ∧ Below w.heap.size w wr)) (fun q9 _ => lS - (intOf q9).toNat)
  case atStart => exact ⟨0, Nat.zero_le _, rfl, H1⟩
  case round =>
    clear H1
    obtain ⟨i, hi, rfl, HI⟩ := hrel
    rename World => wr
    by_cases hlt : i < lS
    · have j1 : (i : Int) < (lS : Int) := by omega
      have hiL : i < L.length := by rw [HLL.out]; exact hlt
      have hops := HO0.out K KW.out wr HI.out.2
      obtain ⟨ob, oo, hoa, hok, hoc⟩ := hops.c i hiL
      subst hoa
      have oko := hops.ok L[i] (List.getElem_mem hiL)
      have RW := hide (raw_any HI.out.1 L[i] oko)
      have hnx := AS.run_take (AS.new 20) L i hiL
      rw [← hnx] at RW
      generalize L[i] = op at *
      obtain ⟨kd, ra, rb, rw', ch', ⟨lv, ⟨ha, hc, hs⟩, ri, ⟨ka, kc, KL⟩, ⟨va, vc, V⟩, ⟨ca, cc, C⟩⟩⟩ := op
      simp only [AOp.v, Tx.v, TL.v, IL.v] at RW hoc
      have e0 : wr.cell? ⟨ob, oo + i * 11, none⟩ = some (.int .i64 kd) := hoc 0 _ rfl
      have e1 : wr.cell? ⟨ob, oo + i * 11 + 1, none⟩ = some (.int .i64 ra) := hoc 1 _ rfl
      have e2 : wr.cell? ⟨ob, oo + i * 11 + 2, none⟩ = some (.int .i64 rb) := hoc 2 _ rfl
      have e3 : wr.cell? ⟨ob, oo + i * 11 + 3, none⟩ = some (.int .u64 (rw' : Nat)) := hoc 3 _ rfl
      have e4 : wr.cell? ⟨ob, oo + i * 11 + 4, none⟩ = some (.bool ch') := hoc 4 _ rfl
      have e5 : wr.cell? ⟨ob, oo + i * 11 + 5, none⟩ = some (.int .i64 lv) := hoc 5 _ rfl
      have e6 : wr.cell? ⟨ob, oo + i * 11 + 6, none⟩ = some (.slice ha hs.length hc) := hoc 6 _ rfl
      have e7 : wr.cell? ⟨ob, oo + i * 11 + 7, none⟩ = some (.int .i64 ri) := hoc 7 _ rfl
      have e8 : wr.cell? ⟨ob, oo + i * 11 + 8, none⟩ = some (.slice ka KL.length kc) := hoc 8 _ rfl
      have e9 : wr.cell? ⟨ob, oo + i * 11 + 9, none⟩ = some (.slice va V.length vc) := hoc 9 _ rfl
      have e10 : wr.cell? ⟨ob, oo + i * 11 + 10, none⟩ = some (.slice ca C.length cc) := hoc 10 _ rfl
      generalize hs.length = lh at *
      generalize KL.length = lk at *
      generalize V.length = lw at *
      generalize C.length = lc at *
      clear hops hok hoc oko hnx
      go_wp2_with fail
      refine RW.out.mono ?_
      rintro e w3 ⟨rfl, hA, hU⟩
      have HI3 : Hid (AW K w3 P AX AY ((AS.new 20).run (L.take (i + 1))) ((AS.new 20).run (L.take (i + 1))) ∧ Below w.heap.size w w3) := ⟨hA, HSTEP.out wr w3 HI.out.2 hU⟩
      clear hA hU e0 e1 e2 e3 e4 e5 e6 e7 e8 e9 e10 RW
      go_wp2_with fail
      go_roundw
      case rel => exact ⟨i + 1, by omega, by go_num, HI3⟩
      case measure => simp [intOf]; omega
    · have j1 : ¬ (i : Int) < (lS : Int) := by omega
      obtain rfl : i = lS := by omega
      have HT : Hid (L.take i = L) := List.take_of_length_le (by rw [HLL.out]; exact Nat.le_refl _)
      rw [HT.out] at HI
      generalize (AS.new 20).run L = s at *
      have hlen := HI.out.1.len
      have HUY := hide (aw_usedY HI.out.1)
      obtain ⟨c0, c1⟩ := HI.out.1.cells
      have HPK := hide (pick_any id s.sl.length wr (by omega) (by omega) h1 h2)
      have hin := AS.nth_in id hlen.2.2.2
      have hpl := pickN_lt id s.sl.length (by omega)
      have hnth : s.nth id = 1 + ((pickN id s.sl.length : Nat) : Int) := rfl
      generalize s.nth id = nn at *
      have hnl : nn ≤ 70000 := by omega
      have HNN : Hid (1 + ((pickN id s.sl.length : Nat) : Int) = nn) := hnth.symm
      clear hnth
      obtain ⟨hw1, hw2⟩ := wordW_in hin
      have HWX := hide (aw_wordX HI.out.1 nn)
      rw [hw1, hw2] at HWX
      have hxl : s.w nn < 18446744073709551616 := by have := HI.out.1.wlt nn; rw [hw1] at this; exact this
      obtain ⟨t1, t2, t3⟩ := took_held hin
      have HLX := hide (HI.out.1.X (fun F hp => px_lock hp nn (s.w nn) hxl))
      rw [hw2, t3] at HLX
      generalize s.lockS nn (s.w nn) = s2 at *
      have hodd : s2.w nn % 2 = 1 := by rw [t2]; split <;> omega
      have HLK : Hid (∀ W x, x < 18446744073709551616 → AW K W P AX AY s2 s → Calls Try.prog 21 #[.pointer (some ⟨AX, 0, none⟩), .int .i64 nn, .int .u64 (x : Nat)] W fun e w' => e = .returned (.tuple #[.bool false, .int .i64 0]) ∧ AW K w' P AX AY s2 s ∧ Upd (fun k => ¬ K k) W w') := fun W x hx hw => by
        have := hw.X (fun F hp => px_lock hp nn x hx)
        rw [(held_lock hodd x).1, (held_lock hodd x).2, (wordW_in t1).2] at this
        exact this
      have HW2 : Hid (∀ W, AW K W P AX AY s2 s → Calls Try.prog 17 #[.pointer (some ⟨AX, 0, none⟩), .int .i64 nn] W fun e w' => e = .returned (.tuple #[.int .u64 (s2.w nn : Nat), .int .i64 0]) ∧ w' = W) := fun W hw => by
        have := aw_wordX hw nn
        rw [(wordW_in t1).1, (wordW_in t1).2] at this
        exact this
      have HUL : Hid (∀ W, AW K W P AX AY s2 s → Calls Try.prog 22 #[.pointer (some ⟨AX, 0, none⟩), .int .i64 nn, .bool ch] W fun e w' => e = .returned (.int .i64 0) ∧ AW K w' P AX AY (s2.setw nn (freeW (s2.w nn) ch)) s ∧ Upd (fun k => ¬ K k) W w') := fun W hw => by
        have := hw.X (fun F hp => px_unlock hp nn ch)
        rw [(unl_held t1 hodd ch).1, (unl_held t1 hodd ch).2] at this
        exact this
      have HW3 : Hid (∀ W, AW K W P AX AY (s2.setw nn (freeW (s2.w nn) ch)) s → Calls Try.prog 17 #[.pointer (some ⟨AX, 0, none⟩), .int .i64 nn] W fun e w' => e = .returned (.tuple #[.int .u64 (freeW (s2.w nn) ch : Nat), .int .i64 0]) ∧ w' = W) := fun W hw => by
        have := aw_wordX hw nn
        rw [(wordW_in (AS.setw_inn t1)).1, (wordW_in (AS.setw_inn t1)).2, AS.setw_w t1] at this
        exact this
      have hfe := freeW_even hodd ch
      have hfb : s.w nn % 2 = 0 → (decide (freeW (s2.w nn) ch = s.w nn)) = !ch := fun he => by rw [t2, if_pos he]; exact free_back _ ch
      generalize freeW (s2.w nn) ch = fr at *
      generalize s2.w nn = y at *
      generalize s.w nn = x at *
      generalize pickN id s.sl.length = pk at *
      generalize s.sl.length = ll at *
      have j2 : (1 : Int) + (pk : Int) ≤ 70000 := by omega
      obtain ⟨X, hX⟩ : ∃ X : Int, X = (x : Int) := ⟨_, rfl⟩
      obtain ⟨Y, hY⟩ : ∃ Y : Int, Y = (y : Int) := ⟨_, rfl⟩
      obtain ⟨Z, hZ⟩ : ∃ Z : Int, Z = (fr : Int) := ⟨_, rfl⟩
      have X0 : 0 ≤ X := by omega
      have Y0 : 0 ≤ Y := by omega
      have Z0' : 0 ≤ Z := by omega
      have Y1 : Y % 2 = 1 := by omega
      have Z1 : Z % 2 = 0 := by omega
      rw [← hX] at HWX HLX
      rw [← hY] at HW2
      rw [← hZ] at HW3
      have HFB : Hid (x % 2 = 0 → (Z == X) = !ch) := fun he => by
        have := hfb he
        rw [hZ, hX]
        rw [← this]
        by_cases e : fr = x
        · simp [e]
        · rw [decide_eq_false e, beq_eq_false_iff_ne]; omega
      have HX2 := hide hX
      clear t2 t3 hw1 hw2 hxl hodd hfe hfb hin t1 hlen hpl hX hY hZ
      go_wp2_with fail
      refine keep HUY.out ?_
      go_wp2_with fail
      refine keep HPK.out ?_
      go_wp2_with fail
      rw [HNN.out]
      refine keep HWX.out ?_
      go_wp2_with fail
      refine HLX.out.mono ?_
      rintro e w3 ⟨rfl, hA, hU⟩
      have A3 : Hid (AW K w3 P AX AY s2 s ∧ Below w.heap.size w w3) := ⟨hA, HSTEP.out wr w3 HI.out.2 hU⟩
      clear hA hU c0 c1 HUY HPK HWX HLX HI
      by_cases htk : x % 2 = 0
      · rw [decide_eq_true htk]
        have X1 : X % 2 = 0 := by have := HX2.out; omega
        have HFB2 := hide (HFB.out htk)
        clear htk HFB
        go_wp2_with fail
        clear X1
        go_loopw [15] (fun q15 wt => ∃ j : Nat, j ≤ lW ∧ q15 = .int .i64 (j : Int) ∧ Hid (AW K wt P AX AY s2 s ∧ Below w.heap.size w wt)) (fun q15 _ => lW - (intOf q15).toNat)
        case atStart => exact ⟨0, Nat.zero_le _, rfl, A3⟩
        case round =>
          clear A3
          obtain ⟨j, hj, rfl, HJ⟩ := hrel
          rename World => wt
          obtain ⟨c0, c1⟩ := HJ.out.1.cells
          by_cases hlt2 : j < lW
          · have k1 : (j : Int) < (lW : Int) := by omega
            have k2 : (0 : Int) ≤ (j : Int) := by omega
            have k3 : (j : Int) ≤ (lW : Int) := by omega
            obtain ⟨b, o, haw, hcw⟩ := HR0.out wt HJ.out.2 j (by rw [HWL.out]; exact hlt2)
            subst haw
            obtain ⟨q1, q2⟩ := HWB.out j
            obtain ⟨m, hm⟩ : ∃ m : Nat, ws.getD j 0 = (m : Int) := ⟨(ws.getD j 0).toNat, by omega⟩
            rw [hm] at hcw q1 q2
            have HCW : Hid (∀ W, Below w.heap.size w W → W.cell? ⟨b, o + j, none⟩ = some (.int .u64 (m : Nat))) := fun W hB => by obtain ⟨b', o', e, h⟩ := HR0.out W hB j (by rw [HWL.out]; exact hlt2); cases e; rw [hm] at h; exact h
            have HK := hide (HLK.out wt.drew m (by omega) (HJ.out.1.below (below_drew (Below.refl _ _))))
            clear hm q1 q2
            go_wp2_with fail
            go_region_held3 (fun W' => W'.cell? ⟨P, 0, none⟩ = some (.pointer (some ⟨AX, 0, none⟩)) ∧ W'.cell? ⟨b, o + j, none⟩ = some (.int .u64 (m : Nat))) (go_keep) (first
              | (go_at_call 21; refine HK.out.mono ?_; rintro e w5 ⟨rfl, hA, hU⟩; have A5 : Hid (AW K w5 P AX AY s2 s ∧ Below w.heap.size w w5) := ⟨hA, HSTEP.out wt w5 HJ.out.2 (((Upd.refl _ wt).drew).trans hU)⟩; have d0 := hA.cells.1; have d1 : w5.cell? ⟨b, o + j, none⟩ = some (.int .u64 (m : Nat)) := HCW.out w5 A5.out.2; clear hA hU)
              | fail)
            clear d0 d1 hcw c0 c1
            go_wp2_with fail
            go_roundw
            case rel => exact ⟨j + 1, by omega, by go_num, A5⟩
            case measure => simp [intOf]; omega
          · have k1 : ¬ (j : Int) < (lW : Int) := by omega
            have HWD := hide (HW2.out wt HJ.out.1)
            have HUN := hide (HUL.out wt HJ.out.1)
            go_wp2_with fail
            refine keep HWD.out ?_
            go_wp2_with fail
            refine HUN.out.mono ?_
            rintro e w6 ⟨rfl, hA, hU⟩
            have B6 := hide (HSTEP.out wt w6 HJ.out.2 hU)
            have HWE := hide (HW3.out w6 hA)
            obtain ⟨f0, f1⟩ := hA.cells
            clear hA hU c0 c1 HWD HUN
            go_wp2_with fail
            refine keep HWE.out ?_
            have hfb := HFB2.out
            go_wp2_with fail
            go_ret
            exact ⟨by cases ch <;> simp_all, B6.out⟩
      · rw [decide_eq_false htk]
        have X1 : X % 2 = 1 := by have := HX2.out; omega
        clear htk HFB
        go_wp2_with fail
        clear X1
        go_loopw [15] (fun q15 wt => ∃ j : Nat, j ≤ lW ∧ q15 = .int .i64 (j : Int) ∧ Hid (AW K wt P AX AY s2 s ∧ Below w.heap.size w wt)) (fun q15 _ => lW - (intOf q15).toNat)
        case atStart => exact ⟨0, Nat.zero_le _, rfl, A3⟩
        case round =>
          clear A3
          obtain ⟨j, hj, rfl, HJ⟩ := hrel
          rename World => wt
          obtain ⟨c0, c1⟩ := HJ.out.1.cells
          by_cases hlt2 : j < lW
          · have k1 : (j : Int) < (lW : Int) := by omega
            have k2 : (0 : Int) ≤ (j : Int) := by omega
            have k3 : (j : Int) ≤ (lW : Int) := by omega
            obtain ⟨b, o, haw, hcw⟩ := HR0.out wt HJ.out.2 j (by rw [HWL.out]; exact hlt2)
            subst haw
            obtain ⟨q1, q2⟩ := HWB.out j
            obtain ⟨m, hm⟩ : ∃ m : Nat, ws.getD j 0 = (m : Int) := ⟨(ws.getD j 0).toNat, by omega⟩
            rw [hm] at hcw q1 q2
            have HCW : Hid (∀ W, Below w.heap.size w W → W.cell? ⟨b, o + j, none⟩ = some (.int .u64 (m : Nat))) := fun W hB => by obtain ⟨b', o', e, h⟩ := HR0.out W hB j (by rw [HWL.out]; exact hlt2); cases e; rw [hm] at h; exact h
            have HK := hide (HLK.out wt.drew m (by omega) (HJ.out.1.below (below_drew (Below.refl _ _))))
            clear hm q1 q2
            go_wp2_with fail
            go_region_held3 (fun W' => W'.cell? ⟨P, 0, none⟩ = some (.pointer (some ⟨AX, 0, none⟩)) ∧ W'.cell? ⟨b, o + j, none⟩ = some (.int .u64 (m : Nat))) (go_keep) (first
              | (go_at_call 21; refine HK.out.mono ?_; rintro e w5 ⟨rfl, hA, hU⟩; have A5 : Hid (AW K w5 P AX AY s2 s ∧ Below w.heap.size w w5) := ⟨hA, HSTEP.out wt w5 HJ.out.2 (((Upd.refl _ wt).drew).trans hU)⟩; have d0 := hA.cells.1; have d1 : w5.cell? ⟨b, o + j, none⟩ = some (.int .u64 (m : Nat)) := HCW.out w5 A5.out.2; clear hA hU)
              | fail)
            clear d0 d1 hcw c0 c1
            go_wp2_with fail
            go_roundw
            case rel => exact ⟨j + 1, by omega, by go_num, A5⟩
            case measure => simp [intOf]; omega
          · have k1 : ¬ (j : Int) < (lW : Int) := by omega
            have HWD := hide (HW2.out wt HJ.out.1)
            have HUN := hide (HUL.out wt HJ.out.1)
            go_wp2_with fail
            refine keep HWD.out ?_
            go_wp2_with fail
            refine HUN.out.mono ?_
            rintro e w6 ⟨rfl, hA, hU⟩
            have B6 := hide (HSTEP.out wt w6 HJ.out.2 hU)
            have HWE := hide (HW3.out w6 hA)
            obtain ⟨f0, f1⟩ := hA.cells
            clear hA hU c0 c1 HWD HUN
            go_wp2_with fail
            refine keep HWE.out ?_
            go_wp2_with fail
            go_ret
            exact ⟨by simp, B6.out⟩

end Go.Proofs.Ytfpogjgbmibmcaa
