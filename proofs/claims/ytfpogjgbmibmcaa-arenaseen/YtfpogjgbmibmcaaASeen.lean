/- ArenaSeen: the walk. -/
import Derived.Test.YtfpogjgbmibmcaaASeen0
import Derived.Deep.CutBlock
namespace Go.Proofs.Ytfpogjgbmibmcaa
open Go.RowKit

theorem bcell {W W' : World} {p : Addr} {v : Value} (h : Below W.heap.size W W') (hc : W.cell? p = some v) : W'.cell? p = some v := (Upd.of_below h (fun _ => False)).cell hc (fun e => e)

set_option maxRecDepth 100000 in
set_option maxHeartbeats 6400000 in
theorem arenaSeen_any (aS aT : Option Addr) (lS cS lT cT : Nat) (L L2 : List AOp) (w : World)
    (hL : L.length = lS) (hO : Ops (fun k => k < w.heap.size) w aS L) (hlS : lS * 152 ≤ 140737488355328)
    (hL2 : L2.length = lT) (hO2 : Ops (fun k => k < w.heap.size) w aT L2) (hlT : lT * 152 ≤ 140737488355328) :
    Calls Try.prog 7 #[.slice aS lS cS, .slice aT lT cT] w fun e w' => e = .returned (.bool true) ∧ Below w.heap.size w w' := by
  have HBG := hide (begun_good 20 w (by decide) (by decide))
  have HLL := hide hL
  have HLL2 := hide hL2
  have hlS2 : (lS : Int) ≤ 9223372036854775807 := by omega
  have hlT2 : (lT : Int) ≤ 9223372036854775807 := by omega
  have HLT2 : Hid (2 * lT < 18446744073709551616) := by show _ < _; omega
  have HO := hide hO
  have HO2 := hide hO2
  clear hO hO2 hL hL2 hlS hlT
  go_enter Try.func7, Try.ntmps7
  go_wp2_with fail
  refine HBG.out.mono ?_
  rintro e w1 ⟨P, AX, AY, rfl, hA, hb⟩
  obtain ⟨K, hK⟩ : ∃ K : Nat → Prop, K = fun k => k < w.heap.size ∨ k = P := ⟨_, rfl⟩
  rw [← hK] at hA
  have B1 := hide hb
  have KW : Hid (∀ k, k < w.heap.size → K k) := fun k hk => by rw [hK]; exact .inl hk
  have H1 : Hid (AW K w1 P AX AY ((AS.new 20).run (L.take 0)) ((AS.new 20).run (L.take 0)) ∧ Upd (fun k => ¬ K k) w1 w1) := ⟨hA, Upd.refl _ _⟩
  have HBX : Hid (∀ W, Upd (fun k => ¬ K k) w1 W → Below w.heap.size w W) := fun W hU => B1.out.trans (hU.below B1.out.size (fun k hk e => e (KW.out k hk)))
  have HOPS : Hid (∀ W, Upd (fun k => ¬ K k) w1 W → Ops K W aS L) := fun W hU => (HO.out.kept (⟨(HBX.out W hU).os, (HBX.out W hU).tape, (HBX.out W hU).output, (HBX.out W hU).size, fun k _ hk => (HBX.out W hU).block k (Decidable.byContradiction fun hc => hk hc)⟩ : Upd (fun k => ¬ k < w.heap.size) w W)).mono (fun k hk => KW.out k hk)
  have HOPT : Hid (∀ W, Upd (fun k => ¬ K k) w1 W → Ops K W aT L2) := fun W hU => (HO2.out.kept (⟨(HBX.out W hU).os, (HBX.out W hU).tape, (HBX.out W hU).output, (HBX.out W hU).size, fun k _ hk => (HBX.out W hU).block k (Decidable.byContradiction fun hc => hk hc)⟩ : Upd (fun k => ¬ k < w.heap.size) w W)).mono (fun k hk => KW.out k hk)
  clear hA hb hK HBG HO HO2
  go_wp2_with fail
  go_loopw [7] (fun q7 wr => ∃ i : Nat, i ≤ lS ∧ q7 = .int .i64 (i : Int) ∧ Hid (AW K wr P AX AY ((AS.new 20).run (L.take i)) ((AS.new 20).run (L.take i)) ∧ Upd (fun k => ¬ K k) w1 wr)) (fun q7 _ => lS - (intOf q7).toNat)
  case atStart => exact ⟨0, Nat.zero_le _, rfl, H1⟩
  case round =>
    clear H1
    obtain ⟨i, hi, rfl, HI⟩ := hrel
    rename World => wr
    by_cases hlt : i < lS
    · have j1 : (i : Int) < (lS : Int) := by omega
      have hiL : i < L.length := by rw [HLL.out]; exact hlt
      have hops := HOPS.out wr HI.out.2
      obtain ⟨ob, oo, hoa, hok, hoc⟩ := hops.c i hiL
      subst hoa
      have oko := hops.ok L[i] (List.getElem_mem hiL)
      have RW := hide (raw_any HI.out.1 L[i] oko)
      have hnx := AS.run_take (AS.new 20) L i hiL
      rw [← hnx] at RW
      generalize L[i] = op at *
      obtain ⟨kd, ra, rb, rw', ch', ⟨lv, ⟨ha, hc, hs⟩, ri, ⟨ka, kc, KL⟩, ⟨va, vc, V⟩, ⟨ca, cc, C⟩⟩⟩ := op
      simp only [AOp.v, Tx.v, TL.v, IL.v] at RW hoc
      have e0 : wr.cell? ⟨ob, oo + i * 11, none⟩ = some (.int .i64 kd) := hoc 0 _ rfl
      have e1 : wr.cell? ⟨ob, oo + i * 11 + 1, none⟩ = some (.int .i64 ra) := hoc 1 _ rfl
      have e2 : wr.cell? ⟨ob, oo + i * 11 + 2, none⟩ = some (.int .i64 rb) := hoc 2 _ rfl
      have e3 : wr.cell? ⟨ob, oo + i * 11 + 3, none⟩ = some (.int .u64 (rw' : Nat)) := hoc 3 _ rfl
      have e4 : wr.cell? ⟨ob, oo + i * 11 + 4, none⟩ = some (.bool ch') := hoc 4 _ rfl
      have e5 : wr.cell? ⟨ob, oo + i * 11 + 5, none⟩ = some (.int .i64 lv) := hoc 5 _ rfl
      have e6 : wr.cell? ⟨ob, oo + i * 11 + 6, none⟩ = some (.slice ha hs.length hc) := hoc 6 _ rfl
      have e7 : wr.cell? ⟨ob, oo + i * 11 + 7, none⟩ = some (.int .i64 ri) := hoc 7 _ rfl
      have e8 : wr.cell? ⟨ob, oo + i * 11 + 8, none⟩ = some (.slice ka KL.length kc) := hoc 8 _ rfl
      have e9 : wr.cell? ⟨ob, oo + i * 11 + 9, none⟩ = some (.slice va V.length vc) := hoc 9 _ rfl
      have e10 : wr.cell? ⟨ob, oo + i * 11 + 10, none⟩ = some (.slice ca C.length cc) := hoc 10 _ rfl
      generalize hs.length = lh at *
      generalize KL.length = lk at *
      generalize V.length = lw at *
      generalize C.length = lc at *
      clear hops hok hoc oko hnx
      go_wp2_with fail
      refine RW.out.mono ?_
      rintro e w3 ⟨rfl, hA, hU⟩
      have HI3 : Hid (AW K w3 P AX AY ((AS.new 20).run (L.take (i + 1))) ((AS.new 20).run (L.take (i + 1))) ∧ Upd (fun k => ¬ K k) w1 w3) := ⟨hA, HI.out.2.trans hU⟩
      clear hA hU e0 e1 e2 e3 e4 e5 e6 e7 e8 e9 e10 RW
      go_wp2_with fail
      go_roundw
      case rel => exact ⟨i + 1, by omega, by go_num, HI3⟩
      case measure => simp [intOf]; omega
    · have j1 : ¬ (i : Int) < (lS : Int) := by omega
      obtain rfl : i = lS := by omega
      have HT : Hid (L.take i = L) := List.take_of_length_le (by rw [HLL.out]; exact Nat.le_refl _)
      rw [HT.out] at HI
      generalize (AS.new 20).run L = s at *
      have hlen := HI.out.1.len
      have HUY := hide (aw_usedY HI.out.1)
      obtain ⟨c0, c1⟩ := HI.out.1.cells
      have HSW : Hid (∀ id, s.inn id → s.w id < 18446744073709551616) := fun id h => by have := HI.out.1.wlt id; rw [(wordW_in h).1] at this; exact this
      obtain ⟨ll, hll⟩ : ∃ ll, s.sl.length = ll := ⟨_, rfl⟩
      rw [hll] at HUY hlen
      have HL2 := hide hll
      have hl6 : ll ≤ 65536 := hlen.1
      clear hlen hll HT HLL HOPS
      go_wp2_with fail
      refine keep HUY.out ?_
      clear HUY c0 c1
      go_wp2_with fail
      go_loopw [9, 10, 11] (fun q9 q10 q11 wt => ∃ (j : Nat) (aw an : Option Addr) (cw cn : Nat) (M : List Nd), j ≤ ll ∧ q9 = .slice aw j cw ∧ q10 = .slice an j cn ∧ q11 = .int .i64 ((j : Int) + 1) ∧ Hid (M.length = j ∧ Rec s wr.heap.size wt M M j (.slice aw j cw) (.slice an j cn) ∧ Below wr.heap.size wr wt)) (fun _ _ q11 _ => ll - ((intOf q11).toNat - 1))
      case atStart => exact ⟨0, none, none, 0, 0, [], Nat.zero_le _, rfl, rfl, rfl, rfl, Rec.nil _ _ _, Below.refl _ _⟩
      case round =>
        obtain ⟨j, aw, an, cw, cn, M, hj, rfl, rfl, rfl, HJ⟩ := hrel
        rename World => wt
        by_cases hlt2 : j < ll
        · obtain ⟨pd, hpd⟩ : ∃ pd, pd = (j : Int) + 1 := ⟨_, rfl⟩
          rw [← hpd]
          have k1 : pd ≤ (ll : Int) := by omega
          have k6 : pd ≤ 70000 := by omega
          have k3 : 1 ≤ pd := by omega
          have hinp : s.inn pd := by unfold AS.inn; rw [HL2.out]; omega
          obtain ⟨hw1, hw2⟩ := wordW_in hinp
          have AJ := hide (HI.out.1.below HJ.out.2.2)
          obtain ⟨c0, c1⟩ := AJ.out.cells
          have HWX := hide (aw_wordX AJ.out pd)
          rw [hw1, hw2] at HWX
          have HXW : Hid (s.w pd = s.w ((j : Int) + 1)) := by show _ = _; rw [hpd]
          have hrd : s.rd pd = s.n ((j : Int) + 1) := by rw [← hpd]; exact if_pos hinp
          have HHD : Hid (Calls Try.prog 25 #[.pointer (some ⟨AX, 0, none⟩), .int .i64 pd] wt (HdP2 wt (s.rd pd) 0)) := by obtain ⟨F, hp⟩ := AJ.out.px; have := px_head hp pd; rw [hw2] at this; exact this
          have HBD : Hid (∀ W, AW K W P AX AY s s → Calls Try.prog 26 #[.pointer (some ⟨AX, 0, none⟩), .int .i64 pd] W (BdP2 W (s.rd pd) 0)) := fun W hw => by obtain ⟨F, hp⟩ := hw.px; have := px_body hp pd; rw [hw2] at this; exact this
          generalize s.rd pd = q at *
          generalize s.w pd = xw at *
          have HQ := hide hrd
          have HPD := hide hpd
          clear hrd hw1 hw2 hinp hpd
          go_wp2_with fail
          refine keep HWX.out ?_
          go_wp2_with fail
          refine HHD.out.mono ?_
          rintro e w6 ⟨⟨ta, tc, ts⟩, rfl, ht1, ht2, ht3, ht4, hb6⟩
          simp only [Tx.v] at ht2 ⊢
          have HT1 := hide ht1
          have HT2 := hide ht2
          have HT3 := hide (And.intro ht3 ht4)
          have B6 := hide hb6
          obtain ⟨lt, hltt⟩ : ∃ lt, ts.length = lt := ⟨_, rfl⟩
          rw [hltt]
          have HLT := hide hltt
          obtain ⟨w7, hw7⟩ : ∃ w7, w7 = w6.alloc (.cells #[.int .i64 q.lv, .slice ta lt tc, .int .i64 q.ri] 31) := ⟨_, rfl⟩
          have b7 : Below w6.heap.size w6 w7 := by rw [hw7]; exact (Below.refl _ _).alloc (Nat.le_refl _) _
          have g7 : w7.heap[w6.heap.size]? = some (.cells #[.int .i64 q.lv, .slice ta lt tc, .int .i64 q.ri] 31 (0, 0)) := by rw [hw7]; exact heap_alloc_new w6 _
          have B7 := hide (hb6.trans (b7.mono hb6.size))
          have G7 := hide g7
          have B67 := hide b7
          have HW7 := hide hw7
          have A7 := hide (AJ.out.below B7.out)
          obtain ⟨d0, d1⟩ := A7.out.cells
          have HBD7 := hide (HBD.out w7 A7.out)
          clear ht1 ht2 ht3 ht4 hb6 hltt hw7 b7 g7 c0 c1 HHD HBD HWX
          go_upto_region 16 with fail
          rw [← HW7.out]
          go_wp2_with fail
          refine HBD7.out.mono ?_
          rintro e w8 ⟨⟨k8, kc8, K8⟩, ⟨v8, vc8, V8⟩, ⟨c8, cc8, C8⟩, rfl, hk1, hk2, hk3, ho1, ho2, ho3, hz8, hb8⟩
          simp only [TL.v, IL.v] at ho3 ⊢
          obtain ⟨l1, hl1⟩ : ∃ l1, K8.length = l1 := ⟨_, rfl⟩
          obtain ⟨l2, hl2⟩ : ∃ l2, V8.length = l2 := ⟨_, rfl⟩
          obtain ⟨l3, hl3⟩ : ∃ l3, C8.length = l3 := ⟨_, rfl⟩
          rw [hl1, hl2, hl3]
          have HL8 := hide (And.intro hl1 (And.intro hl2 hl3))
          obtain ⟨w9, hw9⟩ : ∃ w9, w9 = w8.alloc (.cells #[.slice k8 l1 kc8, .slice v8 l2 vc8, .slice c8 l3 cc8] 35) := ⟨_, rfl⟩
          have b9 : Below w8.heap.size w8 w9 := by rw [hw9]; exact (Below.refl _ _).alloc (Nat.le_refl _) _
          have g9 : w9.heap[w8.heap.size]? = some (.cells #[.slice k8 l1 kc8, .slice v8 l2 vc8, .slice c8 l3 cc8] 35 (0, 0)) := by rw [hw9]; exact heap_alloc_new w8 _
          have B79 := hide (hb8.trans (b9.mono hb8.size))
          have B9 := hide (B7.out.trans (B79.out.mono B7.out.size))
          have G9 := hide g9
          have G79 : Hid (w9.heap[w6.heap.size]? = _) := (B79.out.block _ (lt_of_block G7.out)).trans G7.out
          have HW9 := hide hw9
          obtain ⟨nd, hnd⟩ : ∃ nd : Nd, nd = ⟨q.lv, ⟨ta, tc, ts⟩, q.ri, ⟨k8, kc8, K8⟩, ⟨v8, vc8, V8⟩, ⟨c8, cc8, C8⟩⟩ := ⟨_, rfl⟩
          have HND := hide (nd_own (W0 := wt) (W1 := w6) (W2 := w7) (W3 := w8) (W := w9) (q := q) (t := ⟨ta, tc, ts⟩) (k := ⟨k8, kc8, K8⟩) (v := ⟨v8, vc8, V8⟩) (c := ⟨c8, cc8, C8⟩) HT1.out HT2.out HT3.out.1 HT3.out.2 hk1 hk2 hk3 ho1 ho2 ho3 hz8 (B67.out.trans (B79.out.mono B67.out.size)) b9 B7.out.size)
          rw [← hnd] at HND
          have HSIX : Hid (nd.six = [.int .i64 q.lv, .slice ta lt tc, .int .i64 q.ri, .slice k8 l1 kc8, .slice v8 l2 vc8, .slice c8 l3 cc8]) := by show _ = _; rw [hnd, ← HLT.out, ← hl1, ← hl2, ← hl3]; rfl
          have RA := hide (HJ.out.2.1.add B9.out nd HND.out.1 HND.out.2.1 (by rw [HND.out.2.2, HQ.out, HJ.out.1]) HJ.out.2.2.size)
          have RA2 := hide (RA.out.below ((Below.refl _ _).alloc (Nat.le_refl _) (.cells #[.int .u64 (xw : Int)] 28)))
          have HPB : Hid (∀ j u, [Value.int .u64 (xw : Int)][j]? = some u → (w9.alloc (.cells #[.int .u64 (xw : Int)] 28)).cell? ((⟨w9.heap.size, 0, none⟩ : Addr).add j) = some u) := cell_one_new _ _ _
          have HBS : Hid (wr.heap.size ≤ (w9.alloc (.cells #[.int .u64 (xw : Int)] 28)).heap.size) := by show _ ≤ _; have := HJ.out.2.2.size; have := B9.out.size; simp; omega
          have HZW : Hid (∀ k, (Value.slice aw j cw).ownBlock = some k → k < wt.heap.size) := fun k hk => (HJ.out.2.1.w.lt k hk).2
          have HS6 : Hid (wt.heap.size ≤ w6.heap.size ∧ w6.heap.size < w9.heap.size ∧ wt.heap.size ≤ w8.heap.size ∧ w8.heap.size < w9.heap.size) := ⟨B6.out.size, lt_of_block G79.out, by have := B7.out.size; have := hb8.size; omega, lt_of_block g9⟩
          clear hk1 hk2 hk3 ho1 ho2 ho3 hz8 hb8 hl1 hl2 hl3 hw9 b9 g9 d0 d1 HBD7 hnd HND
          go_upto_region 17 with fail
          rw [← HW9.out]
          go_upto_region 20 with (first
            | (at_builtin; obtain ⟨iw, hiw, zw0, zw1, zw2⟩ := info_parts infoW; refine append_mineN rfl (.tmp 97) (.tmp 99) 53 rfl wr.heap.size 28 iw (.int .u64 0) 1 8 Try.underlying53 hiw zw0 zw1 zw2 rfl (by decide) (.slice aw j cw) j (wsOf s j) rfl RA2.out.w ⟨w9.heap.size, 0, none⟩ 1 1 [.int .u64 (xw : Int)] rfl rfl HPB.out (by intro u hu; simp at hu; subst hu; rfl) (by omega) (by unfold maxLen; omega) (by omega) HBS.out ?_; intro g1 cw1 w10 hown hg hor; have R10 := hide (RA2.out.word (by rw [← HXW.out]; exact hown) hg hor); have HG10 := hide hg; clear hown hg hor hiw zw0 zw1 zw2 iw)
            | fail)
          have b10 : Below wr.heap.size wr w10 := ((HJ.out.2.2.trans (B9.out.mono HJ.out.2.2.size)).alloc (by have := HJ.out.2.2.size; have := B9.out.size; omega) _).grown HG10.out HBS.out (fun k hk => (RA2.out.w.lt k hk).1)
          have G107 : Hid (w10.heap[w6.heap.size]? = _) := (HG10.out.block _ (by have := HS6.out; simp; omega) (fun e => by have := HZW.out _ e.symm; have := HS6.out; omega)).trans ((Below.heap_alloc _ _ _ (lt_of_block G79.out)).trans G79.out)
          have G109 : Hid (w10.heap[w8.heap.size]? = _) := (HG10.out.block _ (by have := HS6.out; simp; omega) (fun e => by have := HZW.out _ e.symm; have := HS6.out; omega)).trans ((Below.heap_alloc _ _ _ (lt_of_block G9.out)).trans G9.out)
          obtain ⟨u0, u1, u2⟩ := Tri.of G107.out
          obtain ⟨u3, u4, u5⟩ := Tri.of G109.out
          have B10 := hide b10
          have RB := hide (R10.out.below ((Below.refl _ _).alloc (Nat.le_refl _) (.cells #[.int .i64 q.lv, .slice ta lt tc, .int .i64 q.ri, .slice k8 l1 kc8, .slice v8 l2 vc8, .slice c8 l3 cc8] 37)))
          have RBN := hide RB.out.n
          rw [HJ.out.1] at RBN
          have HPB6 := hide (six_new w10 (.int .i64 q.lv) (.slice ta lt tc) (.int .i64 q.ri) (.slice k8 l1 kc8) (.slice v8 l2 vc8) (.slice c8 l3 cc8) 37)
          have HBS6 : Hid (wr.heap.size ≤ (w10.alloc (.cells #[.int .i64 q.lv, .slice ta lt tc, .int .i64 q.ri, .slice k8 l1 kc8, .slice v8 l2 vc8, .slice c8 l3 cc8] 37)).heap.size) := by show _ ≤ _; have := B10.out.size; simp; omega
          clear b10 RA RA2 HPB HBS HZW G79 G7 G9
          go_wp2_with (first
            | (at_builtin; obtain ⟨iw, hiw, zw0, zw1, zw2⟩ := info_parts infoN; refine append_mineN rfl (.tmp 101) (.tmp 105) 76 rfl wr.heap.size 37 iw (.agg #[.int .i64 0, .slice none 0 0, .int .i64 0, .slice none 0 0, .slice none 0 0, .slice none 0 0]) 6 112 Try.underlying76 hiw zw0 zw1 zw2 rfl (by decide) (.slice an j cn) j (M.flatMap Nd.six) rfl RBN.out ⟨w10.heap.size, 0, none⟩ 1 1 [.int .i64 q.lv, .slice ta lt tc, .int .i64 q.ri, .slice k8 l1 kc8, .slice v8 l2 vc8, .slice c8 l3 cc8] rfl rfl HPB6.out (by intro u hu; simp at hu; rcases hu with rfl | rfl | rfl | rfl | rfl | rfl <;> rfl) (by omega) (by unfold maxLen; omega) (by omega) HBS6.out ?_; intro g2 cn1 w11 hown hg hor; have R11 := hide (RB.out.node nd (by rw [HSIX.out, HJ.out.1]; exact hown) hg hor); have HG11 := hide hg; clear hown hg hor hiw zw0 zw1 zw2 iw)
            | fail)
          have B11 : Hid (Below wr.heap.size wr w11) := (B10.out.alloc B10.out.size _).grown HG11.out HBS6.out (fun k hk => (RB.out.n.lt k hk).1)
          rw [HJ.out.1] at R11
          clear u0 u1 u2 u3 u4 u5
          go_roundw
          case rel => exact ⟨j + 1, some ⟨g1, 0, none⟩, some ⟨g2, 0, none⟩, cw1, cn1, M ++ [nd], by omega, rfl, rfl, by rw [HPD.out]; go_num, by rw [List.length_append, HJ.out.1]; rfl, R11.out, B11.out⟩
          case measure => have := HPD.out; simp [intOf]; omega
        · have k1 : ¬ (j : Int) + 1 ≤ (ll : Int) := by omega
          obtain rfl : j = ll := by omega
          obtain ⟨K2, hK2⟩ : ∃ K2 : Nat → Prop, K2 = fun k => K k ∨ (wr.heap.size ≤ k ∧ k < wt.heap.size) := ⟨_, rfl⟩
          have KK : Hid (∀ k, K k → K2 k) := fun k hk => by rw [hK2]; exact .inl hk
          have KR : Hid (∀ k, wr.heap.size ≤ k → k < wt.heap.size → K2 k) := fun k h1 h2 => by rw [hK2]; exact .inr ⟨h1, h2⟩
          have A2 : Hid (AW K2 wt P AX AY s s) := HI.out.1.more HJ.out.2.2 (fun k hk => by rw [hK2] at hk; exact hk) (KK.out _ HI.out.1.kp)
          have U2 : Hid (∀ W, Upd (fun k => ¬ K2 k) wt W → Upd (fun k => ¬ K k) w1 W) := fun W hU => (HI.out.2.trans (kept_below HJ.out.2.2)).trans (kept_less hU KK.out)
          have HOPT2 : Hid (∀ W, Upd (fun k => ¬ K2 k) wt W → Ops K2 W aT L2) := fun W hU => (HOPT.out W (U2.out W hU)).mono KK.out
          have H3 : Hid (AW K2 wt P AX AY s s ∧ Upd (fun k => ¬ K2 k) wt wt ∧ ∀ id, s.inn id → s.w id % 2 = 0 → Since s s id (2 * 0)) := ⟨A2.out, Upd.refl _ _, fun id h1 _ => Since.refl h1 (HSW.out id h1)⟩
          clear hK2 HOPT A2
          go_wp2_with fail
          go_loopw [18] (fun q18 wu => ∃ (i2 : Nat) (t : AS), i2 ≤ lT ∧ q18 = .int .i64 (i2 : Int) ∧ Hid (AW K2 wu P AX AY t t ∧ Upd (fun k => ¬ K2 k) wt wu ∧ ∀ id, s.inn id → s.w id % 2 = 0 → Since s t id (2 * i2))) (fun q18 _ => lT - (intOf q18).toNat)
          case atStart => exact ⟨0, s, Nat.zero_le _, rfl, H3⟩
          case round =>
            clear H3
            obtain ⟨i2, t, hi2, rfl, HU⟩ := hrel
            rename World => wu
            by_cases hlt3 : i2 < lT
            · have j3 : (i2 : Int) < (lT : Int) := by omega
              have hiL : i2 < L2.length := by rw [HLL2.out]; exact hlt3
              have hops := HOPT2.out wu HU.out.2.1
              obtain ⟨ob, oo, hoa, hok, hoc⟩ := hops.c i2 hiL
              subst hoa
              have oko := hops.ok L2[i2] (List.getElem_mem hiL)
              generalize L2[i2] = op at *
              have RAWC : Hid (∀ W', Below wu.heap.size wu W' → Calls Try.prog 10 #[.pointer (some ⟨P, 0, none⟩), AOp.v ⟨op.kind, op.a, op.b, op.w, true, op.n⟩] W' (AwPost K2 W' P AX AY (t.raw ⟨op.kind, op.a, op.b, op.w, true, op.n⟩))) := fun W' hb => raw_any (HU.out.1.below hb) _ (by have := oko.kept (kept_below hb); exact ⟨this.k1, this.a1, this.b1, this.w1, this.n, this.i⟩)
              have HSN : Hid (∀ id, s.inn id → s.w id % 2 = 0 → Since s (t.raw ⟨op.kind, op.a, op.b, op.w, true, op.n⟩) id (2 * (i2 + 1))) := fun id h1 h2 => (HU.out.2.2 id h1 h2).raw h2 (HSW.out id h1) (fun k hk => by have := HU.out.1.wlt k; rw [(wordW_in hk).1] at this; exact this) _ oko.w1 rfl
              generalize t.raw ⟨op.kind, op.a, op.b, op.w, true, op.n⟩ = t2 at *
              obtain ⟨kd, ra, rb, rw', ch', ⟨lv, ⟨ha, hc, hs⟩, ri, ⟨ka, kc, KL⟩, ⟨va, vc, V⟩, ⟨ca, cc, C⟩⟩⟩ := op
              simp only [AOp.v, Tx.v, TL.v, IL.v] at RAWC hoc
              have e0 : wu.cell? ⟨ob, oo + i2 * 11, none⟩ = some (.int .i64 kd) := hoc 0 _ rfl
              have e1 : wu.cell? ⟨ob, oo + i2 * 11 + 1, none⟩ = some (.int .i64 ra) := hoc 1 _ rfl
              have e2 : wu.cell? ⟨ob, oo + i2 * 11 + 2, none⟩ = some (.int .i64 rb) := hoc 2 _ rfl
              have e3 : wu.cell? ⟨ob, oo + i2 * 11 + 3, none⟩ = some (.int .u64 (rw' : Nat)) := hoc 3 _ rfl
              have e4 : wu.cell? ⟨ob, oo + i2 * 11 + 4, none⟩ = some (.bool ch') := hoc 4 _ rfl
              have e5 : wu.cell? ⟨ob, oo + i2 * 11 + 5, none⟩ = some (.int .i64 lv) := hoc 5 _ rfl
              have e6 : wu.cell? ⟨ob, oo + i2 * 11 + 6, none⟩ = some (.slice ha hs.length hc) := hoc 6 _ rfl
              have e7 : wu.cell? ⟨ob, oo + i2 * 11 + 7, none⟩ = some (.int .i64 ri) := hoc 7 _ rfl
              have e8 : wu.cell? ⟨ob, oo + i2 * 11 + 8, none⟩ = some (.slice ka KL.length kc) := hoc 8 _ rfl
              have e9 : wu.cell? ⟨ob, oo + i2 * 11 + 9, none⟩ = some (.slice va V.length vc) := hoc 9 _ rfl
              have e10 : wu.cell? ⟨ob, oo + i2 * 11 + 10, none⟩ = some (.slice ca C.length cc) := hoc 10 _ rfl
              generalize hs.length = lh at *
              generalize KL.length = lk at *
              generalize V.length = lw at *
              generalize C.length = lc at *
              obtain ⟨wv, hwv⟩ : ∃ wv, wv = wu.alloc (.cells #[.int .i64 kd, .int .i64 ra, .int .i64 rb, .int .u64 (rw' : Nat), .bool ch', .int .i64 lv, .slice ha lh hc, .int .i64 ri, .slice ka lk kc, .slice va lw vc, .slice ca lc cc] 39) := ⟨_, rfl⟩
              have gv : wv.heap[wu.heap.size]? = some (.cells #[.int .i64 kd, .int .i64 ra, .int .i64 rb, .int .u64 (rw' : Nat), .bool ch', .int .i64 lv, .slice ha lh hc, .int .i64 ri, .slice ka lk kc, .slice va lw vc, .slice ca lc cc] 39 (0, 0)) := by rw [hwv]; exact heap_alloc_new wu _
              obtain ⟨ww, hww⟩ : ∃ ww, ww = wv.setCell ⟨wu.heap.size, 4, none⟩ (.bool true) := ⟨_, rfl⟩
              have gw : ww.heap[wu.heap.size]? = some (.cells #[.int .i64 kd, .int .i64 ra, .int .i64 rb, .int .u64 (rw' : Nat), .bool true, .int .i64 lv, .slice ha lh hc, .int .i64 ri, .slice ka lk kc, .slice va lw vc, .slice ca lc cc] 39 (0, 0)) := by rw [hww]; exact block_setCell gv 4 _
              have bw : Below wu.heap.size wu ww := by rw [hww, hwv]; exact ((Below.refl _ _).alloc (Nat.le_refl _) _).setCell (Nat.le_refl _) _
              have FR := frozen_of gv 4
              have FC : wv.cell? ⟨wu.heap.size, 4, none⟩ = some (.bool ch') := row_cell gv 4 rfl
              have HWV := hide hwv
              have HWW := hide hww
              have GW := hide gw
              have BW := hide bw
              have RW := hide (RAWC.out ww bw)
              clear hops hok hoc oko RAWC hwv gv hww gw bw
              go_upto_region 25 with fail
              rw [← HWV.out]
              go_upto_region 26 with fail
              rw [← HWW.out]
              clear e0 e1 e2 e3 e4 e5 e6 e7 e8 e9 e10 FR FC
              have f0 : ww.cell? ⟨wu.heap.size, 0, none⟩ = some (.int .i64 kd) := row_cell GW.out 0 rfl
              have f1 : ww.cell? ⟨wu.heap.size, 1, none⟩ = some (.int .i64 ra) := row_cell GW.out 1 rfl
              have f2 : ww.cell? ⟨wu.heap.size, 2, none⟩ = some (.int .i64 rb) := row_cell GW.out 2 rfl
              have f3 : ww.cell? ⟨wu.heap.size, 3, none⟩ = some (.int .u64 (rw' : Nat)) := row_cell GW.out 3 rfl
              have f4 : ww.cell? ⟨wu.heap.size, 4, none⟩ = some (.bool true) := row_cell GW.out 4 rfl
              have f5 : ww.cell? ⟨wu.heap.size, 5, none⟩ = some (.int .i64 lv) := row_cell GW.out 5 rfl
              have f6 : ww.cell? ⟨wu.heap.size, 6, none⟩ = some (.slice ha lh hc) := row_cell GW.out 6 rfl
              have f7 : ww.cell? ⟨wu.heap.size, 7, none⟩ = some (.int .i64 ri) := row_cell GW.out 7 rfl
              have f8 : ww.cell? ⟨wu.heap.size, 8, none⟩ = some (.slice ka lk kc) := row_cell GW.out 8 rfl
              have f9 : ww.cell? ⟨wu.heap.size, 9, none⟩ = some (.slice va lw vc) := row_cell GW.out 9 rfl
              have f10 : ww.cell? ⟨wu.heap.size, 10, none⟩ = some (.slice ca lc cc) := row_cell GW.out 10 rfl
              go_wp2_with fail
              refine RW.out.mono ?_
              rintro e w3 ⟨rfl, hA, hU⟩
              have HU3 : Hid (AW K2 w3 P AX AY t2 t2 ∧ Upd (fun k => ¬ K2 k) wt w3 ∧ ∀ id, s.inn id → s.w id % 2 = 0 → Since s t2 id (2 * (i2 + 1))) := ⟨hA, (HU.out.2.1.trans (kept_below BW.out)).trans hU, HSN.out⟩
              clear hA hU RW f0 f1 f2 f3 f4 f5 f6 f7 f8 f9 f10
              go_wp2_with fail
              go_roundw
              case rel => exact ⟨i2 + 1, t2, by omega, by go_num, HU3⟩
              case measure => simp [intOf]; omega
            · have j3 : ¬ (i2 : Int) < (lT : Int) := by omega
              obtain rfl : i2 = lT := by omega
              have RC := hide (HJ.out.2.1.kept HU.out.2.1 KR.out)
              have HSN : Hid (∀ id, s.inn id → s.w id % 2 = 0 → t.wordW id = s.w id → t.rd id = s.n id) := fun id h1 h2 h3 => by
                have hs := HU.out.2.2 id h1 h2
                rw [(wordW_in hs.inn).1] at h3
                rw [show t.rd id = t.n id from if_pos hs.inn]
                exact hs.seen HLT2.out (HSW.out id h1) h3
              have HEND : Hid (∀ W, Below wu.heap.size wu W → Below w.heap.size w W) := fun W hb => HBX.out W (U2.out W (HU.out.2.1.trans (kept_below hb)))
              have AU := hide HU.out.1
              have HML := hide HJ.out.1
              clear HU HJ HI HBX U2 KR KK HOPT2 KW B1
              go_wp2_with fail
              go_loopw [20] (fun q20 wx => ∃ j2 : Nat, j2 ≤ j ∧ q20 = .int .i64 ((j2 : Int) + 1) ∧ Hid (Below wu.heap.size wu wx)) (fun q20 _ => j - ((intOf q20).toNat - 1))
              case atStart => exact ⟨0, Nat.zero_le _, rfl, Below.refl _ _⟩
              case round =>
                obtain ⟨j2, hj2, rfl, HX⟩ := hrel
                rename World => wx
                by_cases hlt4 : j2 < j
                · obtain ⟨pd, hpd⟩ : ∃ pd, pd = (j2 : Int) + 1 := ⟨_, rfl⟩
                  rw [← hpd]
                  have k4 : pd ≤ (j : Int) := by omega
                  have k5 : pd - 1 = (j2 : Int) := by omega
                  have kw : IntKind.i64.wrap (pd - 1) = (j2 : Int) := by rw [IntKind.wrap_i64]; omega
                  have kx : (j2 : Int).toNat = j2 := by omega
                  have k6 : pd ≤ 70000 := by omega
                  have k7 : 1 ≤ pd := by omega
                  have k8' : (j2 : Int) < (j : Int) := by omega
                  have k9 : (0 : Int) ≤ (j2 : Int) := by omega
                  have hinp : s.inn pd := by unfold AS.inn; rw [HL2.out]; omega
                  have AX2 := hide (AU.out.below HX.out)
                  obtain ⟨c0, c1⟩ := AX2.out.cells
                  have HWX := hide (aw_wordX AX2.out pd)
                  have HKEY := hide (HSN.out pd hinp)
                  have HHD : Hid (Calls Try.prog 25 #[.pointer (some ⟨AX, 0, none⟩), .int .i64 pd] wx (HdP2 wx (t.rd pd) (t.wordE pd))) := by obtain ⟨F, hp⟩ := AX2.out.px; exact px_head hp pd
                  have HBD : Hid (∀ W, AW K2 W P AX AY t t → Calls Try.prog 26 #[.pointer (some ⟨AX, 0, none⟩), .int .i64 pd] W (BdP2 W (t.rd pd) (t.wordE pd))) := fun W hw => by obtain ⟨F, hp⟩ := hw.px; exact px_body hp pd
                  obtain ⟨gw, gn, haw, han, cw0, six0, mok, mp⟩ := (RC.out.below HX.out).look HML.out j2 (by rw [HML.out]; exact hlt4)
                  subst haw
                  subst han
                  have HCW := hide cw0
                  have HSIX := hide six0
                  have HMO := hide mok
                  rw [← hpd] at mp HCW
                  have HMP := hide mp
                  generalize M[j2]'(by rw [HML.out]; exact hlt4) = m at *
                  have hxl := AX2.out.wlt pd
                  have hsl := HSW.out pd hinp
                  generalize t.rd pd = q at *
                  generalize t.wordE pd = er at *
                  generalize t.wordW pd = xw at *
                  generalize hsw : s.w pd = sw at *
                  generalize s.n pd = sn at *
                  have HPD := hide hpd
                  obtain ⟨X, hX⟩ : ∃ X : Int, X = (xw : Int) := ⟨_, rfl⟩
                  obtain ⟨Y, hY⟩ : ∃ Y : Int, Y = (sw : Int) := ⟨_, rfl⟩
                  have X0 : 0 ≤ X := by omega
                  have Y0 : 0 ≤ Y := by omega
                  rw [← hX] at HWX
                  rw [← hY] at HCW
                  have HXY := hide (And.intro hX hY)
                  clear hpd cw0 six0 mok mp hsw hxl hsl hX hY hinp
                  go_wp2_with fail
                  refine keep HWX.out ?_
                  go_wp2_with fail
                  refine HHD.out.mono ?_
                  rintro e w6 ⟨⟨ta, tc, ts⟩, rfl, ht1, ht2, ht3, ht4, hb6⟩
                  simp only [Tx.v] at ht2 ⊢
                  have HT1 := hide ht1
                  have HT2 := hide ht2
                  have HT3 := hide (And.intro ht3 ht4)
                  have B6 := hide hb6
                  obtain ⟨lt, hltt⟩ : ∃ lt, ts.length = lt := ⟨_, rfl⟩
                  rw [hltt]
                  have HLT := hide hltt
                  obtain ⟨w7, hw7⟩ : ∃ w7, w7 = w6.alloc (.cells #[.int .i64 q.lv, .slice ta lt tc, .int .i64 q.ri] 31) := ⟨_, rfl⟩
                  have b7 : Below w6.heap.size w6 w7 := by rw [hw7]; exact (Below.refl _ _).alloc (Nat.le_refl _) _
                  have g7 : w7.heap[w6.heap.size]? = some (.cells #[.int .i64 q.lv, .slice ta lt tc, .int .i64 q.ri] 31 (0, 0)) := by rw [hw7]; exact heap_alloc_new w6 _
                  have B7 := hide (hb6.trans (b7.mono hb6.size))
                  have G7 := hide g7
                  have B67 := hide b7
                  have HW7 := hide hw7
                  have A7 := hide (AX2.out.below B7.out)
                  obtain ⟨d0, d1⟩ := A7.out.cells
                  have HBD7 := hide (HBD.out w7 A7.out)
                  clear ht1 ht2 ht3 ht4 hb6 hltt hw7 b7 g7 c0 c1 HHD HBD HWX
                  go_upto_region 32 with fail
                  rw [← HW7.out]
                  go_wp2_with fail
                  refine HBD7.out.mono ?_
                  rintro e w8 ⟨⟨k8, kc8, K8⟩, ⟨v8, vc8, V8⟩, ⟨c8, cc8, C8⟩, rfl, hk1, hk2, hk3, ho1, ho2, ho3, hz8, hb8⟩
                  simp only [TL.v, IL.v] at ho3 ⊢
                  obtain ⟨l1, hl1⟩ : ∃ l1, K8.length = l1 := ⟨_, rfl⟩
                  obtain ⟨l2, hl2⟩ : ∃ l2, V8.length = l2 := ⟨_, rfl⟩
                  obtain ⟨l3, hl3⟩ : ∃ l3, C8.length = l3 := ⟨_, rfl⟩
                  rw [hl1, hl2, hl3]
                  have HL8 := hide (And.intro hl1 (And.intro hl2 hl3))
                  obtain ⟨w9, hw9⟩ : ∃ w9, w9 = w8.alloc (.cells #[.slice k8 l1 kc8, .slice v8 l2 vc8, .slice c8 l3 cc8] 35) := ⟨_, rfl⟩
                  have b9 : Below w8.heap.size w8 w9 := by rw [hw9]; exact (Below.refl _ _).alloc (Nat.le_refl _) _
                  have g9 : w9.heap[w8.heap.size]? = some (.cells #[.slice k8 l1 kc8, .slice v8 l2 vc8, .slice c8 l3 cc8] 35 (0, 0)) := by rw [hw9]; exact heap_alloc_new w8 _
                  have B79 := hide (hb8.trans (b9.mono hb8.size))
                  have B9 := hide (B7.out.trans (B79.out.mono B7.out.size))
                  have G79 : w9.heap[w6.heap.size]? = _ := (B79.out.block _ (lt_of_block G7.out)).trans G7.out
                  have HW9 := hide hw9
                  have HND := hide (nd_own (W0 := wx) (W1 := w6) (W2 := w7) (W3 := w8) (W := w9) (q := q) (t := ⟨ta, tc, ts⟩) (k := ⟨k8, kc8, K8⟩) (v := ⟨v8, vc8, V8⟩) (c := ⟨c8, cc8, C8⟩) HT1.out HT2.out HT3.out.1 HT3.out.2 hk1 hk2 hk3 ho1 ho2 ho3 hz8 (B67.out.trans (B79.out.mono B67.out.size)) b9 B7.out.size)
                  obtain ⟨mlv, ⟨mha, mhc, mhs⟩, mri, ⟨mka, mkc, mK⟩, ⟨mva, mvc, mV⟩, ⟨mca, mcc, mC⟩⟩ := m
                  have MOK9 := HMO.out.below B9.out
                  have SM : Calls Try.prog 27 #[.agg #[.int .i64 mlv, .slice mha mhs.length mhc, .int .i64 mri, .slice mka mK.length mkc, .slice mva mV.length mvc, .slice mca mC.length mcc], .agg #[.int .i64 q.lv, .slice ta lt tc, .int .i64 q.ri, .slice k8 l1 kc8, .slice v8 l2 vc8, .slice c8 l3 cc8]] w9.drew fun e w' => ∃ bb : Bool, e = .returned (.bool bb) ∧ (sn = q → bb = true) ∧ Below w9.heap.size w9 w' := by
                    have x3 := sameNode_b _ _ w9.drew (MOK9.below (below_drew (Below.refl _ _))) (HND.out.1.below (below_drew (Below.refl _ _)))
                    simp only [Nd.v, Tx.v, TL.v, IL.v, HLT.out, HL8.out.1, HL8.out.2.1, HL8.out.2.2] at x3
                    refine x3.mono fun e w' h => ?_
                    obtain ⟨bb, h1, h2, h3⟩ := h
                    exact ⟨bb, h1, fun hq => h2 (by rw [HMP.out, HND.out.2.2, hq]), (below_drew (Below.refl _ _)).trans h3⟩
                  obtain ⟨s0, s1, s2, s3, s4, s5⟩ := HSIX.out
                  simp only [Tx.v, TL.v, IL.v] at s1 s3 s4 s5
                  generalize mhs.length = mlh at *
                  generalize mK.length = mlk at *
                  generalize mV.length = mlw at *
                  generalize mC.length = mlc at *
                  have p0 : w9.cell? ⟨gn, j2 * 6, none⟩ = some (.int .i64 mlv) := bcell B9.out s0
                  have p1 : w9.cell? ⟨gn, j2 * 6 + 1, none⟩ = some (.slice mha mlh mhc) := bcell B9.out s1
                  have p2 : w9.cell? ⟨gn, j2 * 6 + 2, none⟩ = some (.int .i64 mri) := bcell B9.out s2
                  have p3 : w9.cell? ⟨gn, j2 * 6 + 3, none⟩ = some (.slice mka mlk mkc) := bcell B9.out s3
                  have p4 : w9.cell? ⟨gn, j2 * 6 + 4, none⟩ = some (.slice mva mlw mvc) := bcell B9.out s4
                  have p5 : w9.cell? ⟨gn, j2 * 6 + 5, none⟩ = some (.slice mca mlc mcc) := bcell B9.out s5
                  have HPW := hide (bcell B9.out HCW.out)
                  have HSM := hide SM
                  obtain ⟨u0, u1, u2⟩ := Tri.of G79
                  obtain ⟨u3, u4, u5⟩ := Tri.of g9
                  clear hk1 hk2 hk3 ho1 ho2 ho3 hz8 hb8 hl1 hl2 hl3 hw9 b9 g9 d0 d1 HBD7 s0 s1 s2 s3 s4 s5 SM MOK9 G79 HSIX HND HMO HMP
                  go_upto_region 33 with fail
                  rw [← HW9.out]
                  clear k5
                  go_region_held3 (fun W' => W'.cell? ⟨gn, j2 * 6, none⟩ = some (.int .i64 mlv) ∧ W'.cell? ⟨gn, j2 * 6 + 1, none⟩ = some (.slice mha mlh mhc) ∧ W'.cell? ⟨gn, j2 * 6 + 2, none⟩ = some (.int .i64 mri) ∧ W'.cell? ⟨gn, j2 * 6 + 3, none⟩ = some (.slice mka mlk mkc) ∧ W'.cell? ⟨gn, j2 * 6 + 4, none⟩ = some (.slice mva mlw mvc) ∧ W'.cell? ⟨gn, j2 * 6 + 5, none⟩ = some (.slice mca mlc mcc) ∧ W'.cell? ⟨w6.heap.size, 0, none⟩ = some (.int .i64 q.lv) ∧ W'.cell? ⟨w6.heap.size, 1, none⟩ = some (.slice ta lt tc) ∧ W'.cell? ⟨w6.heap.size, 2, none⟩ = some (.int .i64 q.ri) ∧ W'.cell? ⟨w8.heap.size, 0, none⟩ = some (.slice k8 l1 kc8) ∧ W'.cell? ⟨w8.heap.size, 1, none⟩ = some (.slice v8 l2 vc8) ∧ W'.cell? ⟨w8.heap.size, 2, none⟩ = some (.slice c8 l3 cc8)) (go_keep) (first
                    | (go_at_call 27; refine HSM.out.mono ?_; rintro e wy ⟨bb, rfl, hbb, hby⟩; have HBB := hide hbb; have BY := hide hby; obtain ⟨a0, a1, a2, a3, a4, a5⟩ := And.intro (bcell hby p0) (And.intro (bcell hby p1) (And.intro (bcell hby p2) (And.intro (bcell hby p3) (And.intro (bcell hby p4) (bcell hby p5))))); obtain ⟨a6, a7, a8⟩ := And.intro (bcell hby u0) (And.intro (bcell hby u1) (bcell hby u2)); obtain ⟨a9, b0, b1⟩ := And.intro (bcell hby u3) (And.intro (bcell hby u4) (bcell hby u5)); clear hbb hby)
                    | fail)
                  have q0 := bcell BY.out HPW.out
                  have HR : Hid (Below wu.heap.size wu wy) := HX.out.trans ((B9.out.trans (BY.out.mono B9.out.size)).mono HX.out.size)
                  clear p0 p1 p2 p3 p4 p5 u0 u1 u2 u3 u4 u5 a0 a1 a2 a3 a4 a5 a6 a7 a8 a9 b0 b1
                  by_cases hxy : X = Y
                  · by_cases hev : Y % 2 = 0
                    · have hbb : bb = true := HBB.out ((HKEY.out (by have := HXY.out; omega) (by have := HXY.out; omega)).symm)
                      subst hbb
                      subst hxy
                      go_wp2_with fail
                      clear hev
                      go_roundw
                      case rel => exact ⟨j2 + 1, by omega, by rw [HPD.out]; go_num, HR⟩
                      case measure => have := HPD.out; simp [intOf]; omega
                    · have hev2 : Y % 2 = 1 := by omega
                      subst hxy
                      clear hev
                      go_wp2_with fail
                      clear hev2
                      go_roundw
                      case rel => exact ⟨j2 + 1, by omega, by rw [HPD.out]; go_num, HR⟩
                      case measure => have := HPD.out; simp [intOf]; omega
                  · go_wp2_with fail
                    go_roundw
                    case rel => exact ⟨j2 + 1, by omega, by rw [HPD.out]; go_num, HR⟩
                    case measure => have := HPD.out; simp [intOf]; omega
                · have k4 : ¬ (j2 : Int) + 1 ≤ (j : Int) := by omega
                  go_wp2_with fail
                  go_ret
                  exact ⟨rfl, HEND.out _ HX.out⟩

end Go.Proofs.Ytfpogjgbmibmcaa
