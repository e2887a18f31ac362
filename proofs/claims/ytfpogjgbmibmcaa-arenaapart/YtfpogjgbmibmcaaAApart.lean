/- ArenaApart: the walk. -/
import Derived.Test.YtfpogjgbmibmcaaALaw10
import Derived.Test.YtfpogjgbmibmcaaNSame
import Derived.Deep.CutBlock
namespace Go.Proofs.Ytfpogjgbmibmcaa
open Go.RowKit

theorem hd_ok {W : World} {p : NP} {t : Tx} (h1 : t.s = p.hi) (h2 : OwnB W 0 5 t.v t.s) (h3 : B8 t.s) (h4 : t.s.length ≤ 140737488351232) : t.Ok W ∧ t.s = p.hi := ⟨ownB_ok h2 h3 h4, h1⟩

set_option maxRecDepth 100000 in
set_option maxHeartbeats 6400000 in
theorem arenaApart_any (aS : Option Addr) (lS cS : Nat) (id : Int) (n : Nd) (L : List AOp) (w : World)
    (hL : L.length = lS) (hO : Ops (fun k => k < w.heap.size) w aS L) (hlS : lS * 152 ≤ 140737488355328) (hn : n.Ok w) (h1 : -9223372036854775808 ≤ id) (h2 : id ≤ 9223372036854775807) :
    Calls Try.prog 6 #[.slice aS lS cS, .int .i64 id, n.v] w fun e w' => e = .returned (.bool true) ∧ Below w.heap.size w w' := by
  obtain ⟨w0, hw0⟩ : ∃ w0, w0 = w.alloc (.cells #[.int .i64 n.lv, n.hi.v, .int .i64 n.ri, n.ks.v, n.vs.v, n.cs.v] 37) := ⟨_, rfl⟩
  have b0 : Below w.heap.size w w0 := by rw [hw0]; exact (Below.refl _ _).alloc (Nat.le_refl _) _
  have z0 : w0.heap.size = w.heap.size + 1 := by rw [hw0]; simp
  have g0 : w0.heap[w.heap.size]? = some (.cells #[.int .i64 n.lv, n.hi.v, .int .i64 n.ri, n.ks.v, n.vs.v, n.cs.v] 37 (0, 0)) := by rw [hw0]; exact heap_alloc_new w _
  have HBG := hide (begun_good 20 w0 (by decide) (by decide))
  have HW := hide hw0
  have HLL := hide hL
  have hlS2 : (lS : Int) ≤ 9223372036854775807 := by omega
  have HN := hide hn
  have HO := hide hO
  have B0 := hide b0
  have Z0 := hide z0
  have G0 := hide g0
  clear hO hL hw0 b0 z0 hlS hn g0
  obtain ⟨np, hnp⟩ : ∃ np, np = n.p := ⟨_, rfl⟩
  obtain ⟨nv, hnv⟩ : ∃ nv, nv = n := ⟨_, rfl⟩
  have HNP : Hid (np = nv.p) := by show _ = _; rw [hnp, hnv]
  obtain ⟨lv, ⟨ha, hc, hs⟩, ri, ⟨ka, kc, KL⟩, ⟨va, vc, V⟩, ⟨ca, cc, C⟩⟩ := n
  have HNV := hide hnv
  have HP0 := hide hnp
  clear hnp hnv
  simp only [Nd.v, Tx.v, TL.v, IL.v] at HW G0 ⊢
  go_enter Try.func6, Try.ntmps6
  go_wp2_with fail
  rw [← HW.out]
  refine HBG.out.mono ?_
  rintro e w1 ⟨P, AX, AY, rfl, hA, hb⟩
  obtain ⟨K, hK⟩ : ∃ K : Nat → Prop, K = fun k => k < w0.heap.size ∨ k = P := ⟨_, rfl⟩
  rw [← hK] at hA
  have B1 := hide (B0.out.trans (hb.mono B0.out.size))
  have KW : Hid (∀ k, k < w.heap.size + 1 → K k) := fun k hk => by have := Z0.out; rw [hK]; exact .inl (by omega)
  have H1 : Hid (AW K w1 P AX AY ((AS.new 20).run (L.take 0)) ((AS.new 20).run (L.take 0)) ∧ Upd (fun k => ¬ K k) w1 w1) := ⟨hA, Upd.refl _ _⟩
  have HBX : Hid (∀ W, Upd (fun k => ¬ K k) w1 W → Below w.heap.size w W) := fun W hU => B1.out.trans (hU.below B1.out.size (fun k hk e => e (KW.out k (by omega))))
  have HBOX : Hid (∀ W, Upd (fun k => ¬ K k) w1 W → W.heap[w.heap.size]? = some (.cells #[.int .i64 lv, .slice ha hs.length hc, .int .i64 ri, .slice ka KL.length kc, .slice va V.length vc, .slice ca C.length cc] 37 (0, 0))) := fun W hU => kept_heap hU ((hb.block _ (lt_of_block G0.out)).trans G0.out) (KW.out _ (by omega))
  have HNOK : Hid (∀ W, Upd (fun k => ¬ K k) w1 W → nv.Ok W) := fun W hU => by rw [HNV.out]; exact HN.out.below (HBX.out W hU)
  have HOPS : Hid (∀ W, Upd (fun k => ¬ K k) w1 W → Ops K W aS L) := fun W hU => (HO.out.kept (⟨(HBX.out W hU).os, (HBX.out W hU).tape, (HBX.out W hU).output, (HBX.out W hU).size, fun k _ hk => (HBX.out W hU).block k (Decidable.byContradiction fun hc => hk hc)⟩ : Upd (fun k => ¬ k < w.heap.size) w W)).mono (fun k hk => KW.out k (by omega))
  clear hA hb hK HBG HO G0 HN
  go_wp2_with fail
  go_loopw [9] (fun q9 wr => ∃ i : Nat, i ≤ lS ∧ q9 = .int .i64 (i : Int) ∧ Hid (AW K wr P AX AY ((AS.new 20).run (L.take i)) ((AS.new 20).run (L.take i)) ∧ Upd (fun k => ¬ K k) w1 wr)) (fun q9 _ => lS - (intOf q9).toNat)
  case atStart => exact ⟨0, Nat.zero_le _, rfl, H1⟩
  case round =>
    clear H1
    obtain ⟨i, hi, rfl, HI⟩ := hrel
    rename World => wr
    by_cases hlt : i < lS
    · have j1 : (i : Int) < (lS : Int) := by omega
      have hiL : i < L.length := by rw [HLL.out]; exact hlt
      have hops := HOPS.out wr HI.out.2
      obtain ⟨ob, oo, hoa, hok, hoc⟩ := hops.c i hiL
      subst hoa
      have oko := hops.ok L[i] (List.getElem_mem hiL)
      have RW := hide (raw_any HI.out.1 L[i] oko)
      have hnx := AS.run_take (AS.new 20) L i hiL
      rw [← hnx] at RW
      generalize L[i] = op at *
      obtain ⟨kd, ra, rb, rw', ch', ⟨lv2, ⟨ha2, hc2, hs2⟩, ri2, ⟨ka2, kc2, KL2⟩, ⟨va2, vc2, V2⟩, ⟨ca2, cc2, C2⟩⟩⟩ := op
      simp only [AOp.v, Tx.v, TL.v, IL.v] at RW hoc
      have e0 : wr.cell? ⟨ob, oo + i * 11, none⟩ = some (.int .i64 kd) := hoc 0 _ rfl
      have e1 : wr.cell? ⟨ob, oo + i * 11 + 1, none⟩ = some (.int .i64 ra) := hoc 1 _ rfl
      have e2 : wr.cell? ⟨ob, oo + i * 11 + 2, none⟩ = some (.int .i64 rb) := hoc 2 _ rfl
      have e3 : wr.cell? ⟨ob, oo + i * 11 + 3, none⟩ = some (.int .u64 (rw' : Nat)) := hoc 3 _ rfl
      have e4 : wr.cell? ⟨ob, oo + i * 11 + 4, none⟩ = some (.bool ch') := hoc 4 _ rfl
      have e5 : wr.cell? ⟨ob, oo + i * 11 + 5, none⟩ = some (.int .i64 lv2) := hoc 5 _ rfl
      have e6 : wr.cell? ⟨ob, oo + i * 11 + 6, none⟩ = some (.slice ha2 hs2.length hc2) := hoc 6 _ rfl
      have e7 : wr.cell? ⟨ob, oo + i * 11 + 7, none⟩ = some (.int .i64 ri2) := hoc 7 _ rfl
      have e8 : wr.cell? ⟨ob, oo + i * 11 + 8, none⟩ = some (.slice ka2 KL2.length kc2) := hoc 8 _ rfl
      have e9 : wr.cell? ⟨ob, oo + i * 11 + 9, none⟩ = some (.slice va2 V2.length vc2) := hoc 9 _ rfl
      have e10 : wr.cell? ⟨ob, oo + i * 11 + 10, none⟩ = some (.slice ca2 C2.length cc2) := hoc 10 _ rfl
      generalize hs2.length = lh2 at *
      generalize KL2.length = lk2 at *
      generalize V2.length = lw2 at *
      generalize C2.length = lc2 at *
      clear hops hok hoc oko hnx
      go_wp2_with fail
      refine RW.out.mono ?_
      rintro e w3 ⟨rfl, hA, hU⟩
      have HI3 : Hid (AW K w3 P AX AY ((AS.new 20).run (L.take (i + 1))) ((AS.new 20).run (L.take (i + 1))) ∧ Upd (fun k => ¬ K k) w1 w3) := ⟨hA, HI.out.2.trans hU⟩
      clear hA hU e0 e1 e2 e3 e4 e5 e6 e7 e8 e9 e10 RW
      go_wp2_with fail
      go_roundw
      case rel => exact ⟨i + 1, by omega, by go_num, HI3⟩
      case measure => simp [intOf]; omega
    · have j1 : ¬ (i : Int) < (lS : Int) := by omega
      obtain rfl : i = lS := by omega
      have HT : Hid (L.take i = L) := List.take_of_length_le (by rw [HLL.out]; exact Nat.le_refl _)
      rw [HT.out] at HI
      generalize (AS.new 20).run L = s at *
      have hlen := HI.out.1.len
      have HUY := hide (aw_usedY HI.out.1)
      obtain ⟨c0, c1⟩ := HI.out.1.cells
      have HPK := hide (pick_any id s.sl.length wr (by omega) (by omega) h1 h2)
      have hin := AS.nth_in id hlen.2.2.2
      have hpl := pickN_lt id s.sl.length (by omega)
      have hnth : s.nth id = 1 + ((pickN id s.sl.length : Nat) : Int) := rfl
      generalize s.nth id = nn at *
      have hnl : nn ≤ 70000 := by omega
      have HNN : Hid (1 + ((pickN id s.sl.length : Nat) : Int) = nn) := hnth.symm
      clear hnth
      have HSB := hide (set_both hin np)
      obtain ⟨hw1, hw2⟩ := wordW_in hin
      have HWX := hide (aw_wordX HI.out.1 nn)
      rw [hw1, hw2] at HWX
      have hxl : s.w nn < 18446744073709551616 := by have := HI.out.1.wlt nn; rw [hw1] at this; exact this
      have HLX := hide (HI.out.1.X (fun F hp => px_lock hp nn (s.w nn) hxl))
      rw [hw2] at HLX
      have hSH : ∀ W u, AW K W P AX AY u s → Upd (fun k => ¬ K k) w1 W → u.unlE nn = 0 → Calls Try.prog 23 #[.pointer (some ⟨AX, 0, none⟩), .int .i64 nn, .agg #[.int .i64 nv.lv, nv.hi.v, .int .i64 nv.ri]] W fun e w' => e = .returned (.int .i64 0) ∧ AW K w' P AX AY (u.hedS nn nv.lv nv.hi.s nv.ri) s ∧ Upd (fun k => ¬ K k) W w' := fun W u hw hu he => by
        have := hw.X (fun F hp => px_setH hp nn nv.lv nv.ri nv.hi (HNOK.out W hu).h)
        rw [he] at this
        exact this
      have hSBd : ∀ W u, AW K W P AX AY u s → Upd (fun k => ¬ K k) w1 W → u.unlE nn = 0 → Calls Try.prog 24 #[.pointer (some ⟨AX, 0, none⟩), .int .i64 nn, .agg #[nv.ks.v, nv.vs.v, nv.cs.v]] W fun e w' => e = .returned (.int .i64 0) ∧ AW K w' P AX AY (u.bodS nn nv.ks.p nv.vs.p nv.cs.s) s ∧ Upd (fun k => ¬ K k) W w' := fun W u hw hu he => by
        have := hw.X (fun F hp => px_setB hp nn nv.ks nv.vs nv.cs (HNOK.out W hu).k (HNOK.out W hu).v (HNOK.out W hu).c (HNOK.out W hu).kz (HNOK.out W hu).vz (HNOK.out W hu).cz)
        rw [he] at this
        exact this
      have hq1 : np.lv = nv.lv ∧ np.hi = nv.hi.s ∧ np.ri = nv.ri ∧ np.ks = nv.ks.p ∧ np.vs = nv.vs.p ∧ np.cs = nv.cs.s := by rw [HNP.out]; exact ⟨rfl, rfl, rfl, rfl, rfl, rfl⟩
      rw [hq1.1, hq1.2.1, hq1.2.2.1, hq1.2.2.2.1, hq1.2.2.2.2.1, hq1.2.2.2.2.2] at HSB
      have SH := hide hSH
      have SB := hide hSBd
      generalize s.lockS nn (s.w nn) = s2 at *
      rw [HNV.out] at SH SB HSB
      simp only [Tx.v, TL.v, IL.v] at SH SB HSB
      generalize s.lockB nn (s.w nn) = lb at *
      generalize hx : s.w nn = x at *
      generalize pickN id s.sl.length = pk at *
      have j2 : (1 : Int) + (pk : Int) ≤ 70000 := by omega
      have HLEN := hide hlen
      have HIN := hide hin
      obtain ⟨ll, hll⟩ : ∃ ll, s.sl.length = ll := ⟨_, rfl⟩
      rw [hll] at HUY HPK hlen hpl
      have HL2 := hide hll
      generalize hlh : hs.length = lh at *
      generalize hlk : KL.length = lk at *
      generalize hlw : V.length = lw at *
      generalize hlc : C.length = lc at *
      have HLHS := hide (And.intro hlh (And.intro hlk (And.intro hlw hlc)))
      clear hlh hlk hlw hlc hx hw1 hw2 hxl hin hq1 hSH hSBd hll
      go_wp2_with fail
      refine keep HUY.out ?_
      go_wp2_with fail
      refine keep HPK.out ?_
      go_wp2_with fail
      rw [HNN.out]
      refine keep HWX.out ?_
      go_wp2_with fail
      refine HLX.out.mono ?_
      rintro e w3 ⟨rfl, hA, hU⟩
      have A3 : Hid (AW K w3 P AX AY s2 s ∧ Upd (fun k => ¬ K k) w1 w3) := ⟨hA, HI.out.2.trans hU⟩
      clear hA hU c0 c1 HUY HPK HWX HLX HI
      obtain ⟨x0, x1⟩ := A3.out.1.cells
      obtain ⟨y0, y1, y2, y3, y4, y5⟩ := Six.of (HBOX.out w3 A3.out.2)
      go_wp2_with fail
      go_region_held3 (fun W' => W'.cell? ⟨P, 0, none⟩ = some (.pointer (some ⟨AX, 0, none⟩)) ∧ W'.cell? ⟨w.heap.size, 0, none⟩ = some (.int .i64 lv) ∧ W'.cell? ⟨w.heap.size, 1, none⟩ = some (.slice ha lh hc) ∧ W'.cell? ⟨w.heap.size, 2, none⟩ = some (.int .i64 ri)) (go_keep) (first
        | (go_at_call 23; refine (SH.out w3.drew s2 (A3.out.1.below (below_drew (Below.refl _ _))) (A3.out.2.drew) HSB.out.e2).mono ?_; rintro e w4 ⟨rfl, hA, hU⟩; have A4 : Hid (AW K w4 P AX AY (s2.hedS nn lv hs ri) s ∧ Upd (fun k => ¬ K k) w1 w4) := ⟨hA, A3.out.2.trans (((Upd.refl _ w3).drew).trans hU)⟩; obtain ⟨p0, p1⟩ := hA.cells; obtain ⟨r0, r1, r2, r3, r4, r5⟩ := Six.of (HBOX.out w4 A4.out.2); clear hA hU)
        | fail)
      clear x0 x1 y0 y1 y2 y3 y4 y5 SH A3
      go_wp2_with fail
      go_region_held3 (fun W' => W'.cell? ⟨P, 0, none⟩ = some (.pointer (some ⟨AX, 0, none⟩)) ∧ W'.cell? ⟨w.heap.size, 3, none⟩ = some (.slice ka lk kc) ∧ W'.cell? ⟨w.heap.size, 4, none⟩ = some (.slice va lw vc) ∧ W'.cell? ⟨w.heap.size, 5, none⟩ = some (.slice ca lc cc)) (go_keep) (first
        | (go_at_call 24; refine (SB.out w4.drew (s2.hedS nn lv hs ri) (A4.out.1.below (below_drew (Below.refl _ _))) (A4.out.2.drew) HSB.out.e3).mono ?_; rintro e w5 ⟨rfl, hA, hU⟩; have A5 := hide (And.intro hA (A4.out.2.trans (((Upd.refl _ w4).drew).trans hU))); obtain ⟨f0, f1⟩ := hA.cells; obtain ⟨t0, t1, t2, t3, t4, t5⟩ := Six.of (HBOX.out w5 A5.out.2); clear hA hU)
        | fail)
      clear p0 p1 r0 r1 r2 r3 r4 r5 f0 f1 t0 t1 t2 t3 t4 t5 SB A4
      have HRD := hide HSB.out.rd
      have HS4L := hide HSB.out.len
      have HS4R := hide HSB.out.root
      rw [show (⟨lv, ⟨ha, hc, hs⟩, ri, ⟨ka, kc, KL⟩, ⟨va, vc, V⟩, ⟨ca, cc, C⟩⟩ : Nd).p = np from HP0.out.symm] at *
      generalize (s2.hedS nn lv hs ri).bodS nn (TL.p ⟨ka, kc, KL⟩) (TL.p ⟨va, vc, V⟩) C = s4 at *
      go_wp2_with fail
      go_loopw [15] (fun q15 wt => ∃ j : Nat, j ≤ ll ∧ q15 = .int .i64 ((j : Int) + 1) ∧ Hid (AW K wt P AX AY s4 s ∧ Upd (fun k => ¬ K k) w1 wt)) (fun q15 _ => ll - ((intOf q15).toNat - 1))
      case atStart => exact ⟨0, Nat.zero_le _, rfl, A5⟩
      case round =>
        clear A5
        obtain ⟨j, hj, rfl, HJ⟩ := hrel
        rename World => wt
        obtain ⟨c0, c1⟩ := HJ.out.1.cells
        have HUS := hide (aw_usedY HJ.out.1)
        rw [HL2.out] at HUS
        have hl6 := HLEN.out.1
        rw [HL2.out] at hl6
        by_cases hlt2 : j < ll
        · obtain ⟨pd, hpd⟩ : ∃ pd, pd = (j : Int) + 1 := ⟨_, rfl⟩
          rw [← hpd]
          have k1 : pd ≤ (ll : Int) := by omega
          have k2 : pd - 1 = (j : Int) := by omega
          have k3 : 1 ≤ pd := by omega
          have k4 : (j : Int) < (ll : Int) := by omega
          have k5 : (0 : Int) ≤ (j : Int) := by omega
          have k6 : pd ≤ 70000 := by omega
          have hinp : s.inn pd := by unfold AS.inn; rw [HL2.out]; omega
          have hrd := HRD.out pd hinp
          have hwe : s4.wordE pd = 0 := if_pos ((AS.inn_of_len HS4L.out pd).2 hinp)
          have hsn : s.n pd = s.n ((j : Int) + 1) := by rw [hpd]
          have HHD : Hid (Calls Try.prog 25 #[.pointer (some ⟨AX, 0, none⟩), .int .i64 pd] wt (HdP2 wt (s4.rd pd) 0)) := by obtain ⟨F, hp⟩ := HJ.out.1.px; have := px_head hp pd; rw [hwe] at this; exact this
          have HBD : Hid (∀ W, AW K W P AX AY s4 s → Calls Try.prog 26 #[.pointer (some ⟨AX, 0, none⟩), .int .i64 pd] W (BdP2 W (s4.rd pd) 0)) := fun W hw => by obtain ⟨F, hp⟩ := hw.px; have := px_body hp pd; rw [hwe] at this; exact this
          generalize s4.rd pd = q at *
          have HQ := hide hrd
          have HSN := hide hsn
          have HPD := hide hpd
          clear hrd hwe hinp hsn hpd
          go_wp2_with fail
          refine keep HUS.out ?_
          go_wp2_with fail
          refine HHD.out.mono ?_
          rintro e w6 ⟨⟨ta, tc, ts⟩, rfl, ht1, ht2, ht3, ht4, hb6⟩
          simp only [Tx.v] at ht2 ⊢
          have HT1 := hide ht1
          have HT2 := hide ht2
          have HT3 := hide (And.intro ht3 ht4)
          have B6 := hide hb6
          obtain ⟨lt, hltt⟩ : ∃ lt, ts.length = lt := ⟨_, rfl⟩
          rw [hltt]
          have HLT := hide hltt
          obtain ⟨w7, hw7⟩ : ∃ w7, w7 = w6.alloc (.cells #[.int .i64 q.lv, .slice ta lt tc, .int .i64 q.ri] 31) := ⟨_, rfl⟩
          have b7 : Below w6.heap.size w6 w7 := by rw [hw7]; exact (Below.refl _ _).alloc (Nat.le_refl _) _
          have g7 : w7.heap[w6.heap.size]? = some (.cells #[.int .i64 q.lv, .slice ta lt tc, .int .i64 q.ri] 31 (0, 0)) := by rw [hw7]; exact heap_alloc_new w6 _
          have B7 := hide (hb6.trans (b7.mono hb6.size))
          have G7 := hide g7
          have B67 := hide b7
          have HW7 := hide hw7
          have A7 := hide (HJ.out.1.below B7.out)
          obtain ⟨d0, d1⟩ := A7.out.cells
          have HBD7 := hide (HBD.out w7 A7.out)
          clear ht1 ht2 ht3 ht4 hb6 hltt hw7 b7 g7 c0 c1 HHD HBD HUS
          go_upto_region 19 with fail
          rw [← HW7.out]
          go_wp2_with fail
          refine HBD7.out.mono ?_
          rintro e w8 ⟨⟨k8, kc8, K8⟩, ⟨v8, vc8, V8⟩, ⟨c8, cc8, C8⟩, rfl, hk1, hk2, hk3, ho1, ho2, ho3, hz8, hb8⟩
          simp only [TL.v, IL.v] at ho3 ⊢
          have HK8 := hide (And.intro hk1 (And.intro hk2 hk3))
          have HO8 := hide (And.intro ho1 (And.intro ho2 ho3))
          have HZ8 := hide hz8
          obtain ⟨l1, hl1⟩ : ∃ l1, K8.length = l1 := ⟨_, rfl⟩
          obtain ⟨l2, hl2⟩ : ∃ l2, V8.length = l2 := ⟨_, rfl⟩
          obtain ⟨l3, hl3⟩ : ∃ l3, C8.length = l3 := ⟨_, rfl⟩
          rw [hl1, hl2, hl3]
          have HL8 := hide (And.intro hl1 (And.intro hl2 hl3))
          obtain ⟨w9, hw9⟩ : ∃ w9, w9 = w8.alloc (.cells #[.slice k8 l1 kc8, .slice v8 l2 vc8, .slice c8 l3 cc8] 35) := ⟨_, rfl⟩
          have b9 : Below w8.heap.size w8 w9 := by rw [hw9]; exact (Below.refl _ _).alloc (Nat.le_refl _) _
          have g9 : w9.heap[w8.heap.size]? = some (.cells #[.slice k8 l1 kc8, .slice v8 l2 vc8, .slice c8 l3 cc8] 35 (0, 0)) := by rw [hw9]; exact heap_alloc_new w8 _
          have B79 := hide (hb8.trans (b9.mono hb8.size))
          have B89 := hide b9
          have B9 := hide (B7.out.trans (B79.out.mono B7.out.size))
          have G9 := hide g9
          have G79 : Hid (w9.heap[w6.heap.size]? = _) := (B79.out.block _ (lt_of_block G7.out)).trans G7.out
          have HW9 := hide hw9
          have A9 := hide (HJ.out.1.below B9.out)
          obtain ⟨f0, f1⟩ := A9.out.cells
          obtain ⟨g, gc, hsl, hnodes⟩ := A9.out.slots
          rw [HL2.out] at hsl hnodes
          obtain ⟨m, hmo, hmp, m0, m1, m2, m3, m4, m5⟩ := hnodes j hlt2
          obtain ⟨mlv, ⟨mha, mhc, mhs⟩, mri, ⟨mka, mkc, mK⟩, ⟨mva, mvc, mV⟩, ⟨mca, mcc, mC⟩⟩ := m
          have HMO := hide hmo
          have HMP := hide hmp
          simp only [Tx.v, TL.v, IL.v] at m0 m1 m2 m3 m4 m5
          obtain ⟨mlh, hmlh⟩ : ∃ x, mhs.length = x := ⟨_, rfl⟩
          obtain ⟨mlk, hmlk⟩ : ∃ x, mK.length = x := ⟨_, rfl⟩
          obtain ⟨mlw, hmlw⟩ : ∃ x, mV.length = x := ⟨_, rfl⟩
          obtain ⟨mlc, hmlc⟩ : ∃ x, mC.length = x := ⟨_, rfl⟩
          rw [hmlh] at m1
          rw [hmlk] at m3
          rw [hmlw] at m4
          rw [hmlc] at m5
          have n1 : w9.cell? ⟨g, j * 7 + 2, none⟩ = some (.slice mha mlh mhc) := m1
          have n2 : w9.cell? ⟨g, j * 7 + 3, none⟩ = some (.int .i64 mri) := m2
          have n3 : w9.cell? ⟨g, j * 7 + 4, none⟩ = some (.slice mka mlk mkc) := m3
          have n4 : w9.cell? ⟨g, j * 7 + 5, none⟩ = some (.slice mva mlw mvc) := m4
          have n5 : w9.cell? ⟨g, j * 7 + 6, none⟩ = some (.slice mca mlc mcc) := m5
          have HML := hide (And.intro hmlh (And.intro hmlk (And.intro hmlw hmlc)))
          obtain ⟨wa, hwa⟩ : ∃ wa, wa = w9.alloc (.cells #[.int .i64 mlv, .slice mha mlh mhc, .int .i64 mri, .slice mka mlk mkc, .slice mva mlw mvc, .slice mca mlc mcc] 37) := ⟨_, rfl⟩
          have ba : Below w9.heap.size w9 wa := by rw [hwa]; exact (Below.refl _ _).alloc (Nat.le_refl _) _
          have ga : wa.heap[w9.heap.size]? = some (.cells #[.int .i64 mlv, .slice mha mlh mhc, .int .i64 mri, .slice mka mlk mkc, .slice mva mlw mvc, .slice mca mlc mcc] 37 (0, 0)) := by rw [hwa]; exact heap_alloc_new w9 _
          have BA := hide (B9.out.trans (ba.mono B9.out.size))
          have B9A := hide ba
          have GA := hide ga
          have GA7 : Hid (wa.heap[w6.heap.size]? = _) := (ba.block _ (lt_of_block G79.out)).trans G79.out
          have GA9 : Hid (wa.heap[w8.heap.size]? = _) := (ba.block _ (lt_of_block G9.out)).trans G9.out
          have HWA := hide hwa
          have za : w6.heap.size < w9.heap.size := lt_of_block G79.out
          have zb : w8.heap.size < w9.heap.size := lt_of_block G9.out
          have HZAB := hide (And.intro za zb)
          have UA : Hid (Upd (fun k => ¬ K k) w1 wa) := HJ.out.2.trans (kept_below BA.out)
          have s67 := B67.out.size
          have HOWN : Hid (∀ W, Upd (fun k => k = w9.heap.size) wa W → (⟨q.lv, ⟨ta, tc, ts⟩, q.ri, ⟨k8, kc8, K8⟩, ⟨v8, vc8, V8⟩, ⟨c8, cc8, C8⟩⟩ : Nd).Ok W ∧ (⟨q.lv, ⟨ta, tc, ts⟩, q.ri, ⟨k8, kc8, K8⟩, ⟨v8, vc8, V8⟩, ⟨c8, cc8, C8⟩⟩ : Nd).p = q) := by
            intro W hU
            have hZ := HZ8.out
            have b6a : Below w6.heap.size w6 wa := by
              have x1 := B67.out.trans (B79.out.mono B67.out.size)
              exact x1.trans (B9A.out.mono x1.size)
            have b8a : Below w8.heap.size w8 wa := B89.out.trans (B9A.out.mono B89.out.size)
            have e1 : OwnB W wt.heap.size 5 (⟨ta, tc, ts⟩ : Tx).v ts := (show OwnB w6 wt.heap.size 5 (⟨ta, tc, ts⟩ : Tx).v ts from HT2.out).below b6a |>.upd hU (fun k hk e => by have := ((show OwnB w6 wt.heap.size 5 (⟨ta, tc, ts⟩ : Tx).v ts from HT2.out).owns.lt k hk).2; have := HZAB.out.1; omega)
            have e2 := (HO8.out.1.below b8a)
            have e3 := (HO8.out.2.1.below b8a)
            have e4 : wa.ownsRow w7.heap.size 3 1 (⟨c8, cc8, C8⟩ : IL).v C8.length (C8.map (Value.int .i64)) := owns_below HO8.out.2.2 b8a
            have hin8 : ∀ k, k < w8.heap.size → ¬ k = w9.heap.size := fun k hk => by have := HZAB.out.2; omega
            have nd8 : (⟨q.lv, ⟨ta, tc, ts⟩, q.ri, ⟨k8, kc8, K8⟩, ⟨v8, vc8, V8⟩, ⟨c8, cc8, C8⟩⟩ : Nd).Ok W := by
              have o8 : (⟨q.lv, ⟨none, 0, []⟩, q.ri, ⟨k8, kc8, K8⟩, ⟨v8, vc8, V8⟩, ⟨c8, cc8, C8⟩⟩ : Nd).Ok w8 := ⟨Tx.nil_ok _, HO8.out.1.ok, HO8.out.2.1.ok, il_of_owns (t := ⟨c8, cc8, C8⟩) HO8.out.2.2, hZ.1, hZ.2.1, hZ.2.2⟩
              have oW : (⟨q.lv, ⟨none, 0, []⟩, q.ri, ⟨k8, kc8, K8⟩, ⟨v8, vc8, V8⟩, ⟨c8, cc8, C8⟩⟩ : Nd).Ok W := (o8.below b8a).upd o8.in_ hU hin8
              exact ⟨ownB_ok (x := ⟨ta, tc, ts⟩) e1 HT3.out.1 HT3.out.2, oW.k, oW.v, oW.c, hZ.1, hZ.2.1, hZ.2.2⟩
            refine ⟨nd8, ?_⟩
            obtain ⟨q1, q2, q3, q4, q5, q6⟩ := q
            simp only [Nd.p, NP.mk.injEq]
            exact ⟨trivial, HT1.out, trivial, HK8.out.1, HK8.out.2.1, HK8.out.2.2⟩
          clear hk1 hk2 hk3 ho1 ho2 ho3 hz8 hb8 hl1 hl2 hl3 hw9 b9 g9 hmo hmp hmlh hmlk hmlw hmlc m1 m2 m3 m4 m5 hwa ba ga za zb s67 hnodes d0 d1 HBD7
          go_upto_region 20 with fail
          rw [← HW9.out]
          go_upto_region 21 with fail
          rw [← HWA.out]
          by_cases hpn : pd = nn
          · rw [if_pos hpn] at HQ
            have HPN := hide hpn
            obtain ⟨y0, y1, y2, y3, y4, y5⟩ := Six.of (HBOX.out wa UA.out)
            obtain ⟨r0, r1, r2, r3, r4, r5⟩ := Six.of GA.out
            have FR := fun j => frozen_of GA.out j
            obtain ⟨wb, hwb⟩ : ∃ wb, wb = six6 wa w9.heap.size (.int .i64 lv) (.slice ha lh hc) (.int .i64 ri) (.slice ka lk kc) (.slice va lw vc) (.slice ca lc cc) := ⟨_, rfl⟩
            have UB : Hid (Upd (fun k => k = w9.heap.size) wa wb) := by show Upd _ _ _; rw [hwb]; exact six_upd _ _ _ _ _ _ _ _ _ rfl
            have GB : Hid (wb.heap[w9.heap.size]? = some (.cells #[.int .i64 lv, .slice ha lh hc, .int .i64 ri, .slice ka lk kc, .slice va lw vc, .slice ca lc cc] 37 (0, 0))) := by show _ = _; rw [hwb]; exact six_block GA.out _ _ _ _ _ _
            have GB7 : Hid (wb.heap[w6.heap.size]? = _) := UB.out.heap GA7.out (by have := HZAB.out.1; omega)
            have GB9 : Hid (wb.heap[w8.heap.size]? = _) := UB.out.heap GA9.out (by have := HZAB.out.2; omega)
            have KB : Hid (Upd (fun k => ¬ K k) wa wb) := UB.out.mono (fun k hk e hK => by have := HJ.out.1.klt k hK; have := B9.out.size; omega)
            have HWB : Hid (wb = (((((wa.setCell ⟨w9.heap.size, 0, none⟩ (.int .i64 lv)).setCell ⟨w9.heap.size, 1, none⟩ (.slice ha lh hc)).setCell ⟨w9.heap.size, 2, none⟩ (.int .i64 ri)).setCell ⟨w9.heap.size, 3, none⟩ (.slice ka lk kc)).setCell ⟨w9.heap.size, 4, none⟩ (.slice va lw vc)).setCell ⟨w9.heap.size, 5, none⟩ (.slice ca lc cc)) := hwb
            clear hwb
            go_upto_region 23 with fail
            rw [← HWB.out]
            have SM : Hid (Calls Try.prog 27 #[.agg #[.int .i64 q.lv, .slice ta lt tc, .int .i64 q.ri, .slice k8 l1 kc8, .slice v8 l2 vc8, .slice c8 l3 cc8], .agg #[.int .i64 lv, .slice ha lh hc, .int .i64 ri, .slice ka lk kc, .slice va lw vc, .slice ca lc cc]] wb fun e w' => e = .returned (.bool true) ∧ Below wb.heap.size wb w') := by
              obtain ⟨x1, x2⟩ := HOWN.out wb UB.out
              have x3 := sameNode_any _ nv wb x1 (HNOK.out wb (UA.out.trans KB.out)) (by rw [x2, HQ.out, HNP.out])
              rw [HNV.out] at x3
              simp only [Nd.v, Tx.v, TL.v, IL.v, HLT.out, HL8.out.1, HL8.out.2.1, HL8.out.2.2, HLHS.out.1, HLHS.out.2.1, HLHS.out.2.2.1, HLHS.out.2.2.2] at x3
              exact x3
            obtain ⟨u0, u1, u2⟩ := Tri.of GB7.out
            obtain ⟨u3, u4, u5⟩ := Tri.of GB9.out
            obtain ⟨v0, v1, v2, v3, v4, v5⟩ := Six.of GB.out
            go_wp2_with fail
            refine SM.out.mono ?_
            rintro e wc ⟨rfl, hbc⟩
            have AC : Hid (AW K wc P AX AY s4 s ∧ Upd (fun k => ¬ K k) w1 wc) := ⟨(HJ.out.1.below (BA.out.trans (UB.out.below BA.out.size (fun k hk e => by have := B9.out.size; omega)))).below hbc, (UA.out.trans KB.out).trans (kept_below hbc)⟩
            clear hbc u0 u1 u2 u3 u4 u5 v0 v1 v2 v3 v4 v5
            go_wp2_with fail
            go_roundw
            case rel => exact ⟨j + 1, by omega, by rw [← HPN.out, HPD.out]; go_num, AC⟩
            case measure => have := HPD.out; have := HPN.out; simp [intOf]; omega
          · rw [if_neg hpn] at HQ
            go_upto_region 23 with fail
            have SM : Hid (Calls Try.prog 27 #[.agg #[.int .i64 q.lv, .slice ta lt tc, .int .i64 q.ri, .slice k8 l1 kc8, .slice v8 l2 vc8, .slice c8 l3 cc8], .agg #[.int .i64 mlv, .slice mha mlh mhc, .int .i64 mri, .slice mka mlk mkc, .slice mva mlw mvc, .slice mca mlc mcc]] wa fun e w' => e = .returned (.bool true) ∧ Below wa.heap.size wa w') := by
              obtain ⟨x1, x2⟩ := HOWN.out wa (Upd.refl _ _)
              have x3 := sameNode_any _ _ wa x1 (HMO.out.below B9A.out) (by rw [x2, HQ.out, HSN.out, HMP.out])
              simp only [Nd.v, Tx.v, TL.v, IL.v, HLT.out, HL8.out.1, HL8.out.2.1, HL8.out.2.2, HML.out.1, HML.out.2.1, HML.out.2.2.1, HML.out.2.2.2] at x3
              exact x3
            obtain ⟨u0, u1, u2⟩ := Tri.of GA7.out
            obtain ⟨u3, u4, u5⟩ := Tri.of GA9.out
            obtain ⟨v0, v1, v2, v3, v4, v5⟩ := Six.of GA.out
            go_wp2_with fail
            refine SM.out.mono ?_
            rintro e wc ⟨rfl, hbc⟩
            have AC : Hid (AW K wc P AX AY s4 s ∧ Upd (fun k => ¬ K k) w1 wc) := ⟨(HJ.out.1.below BA.out).below hbc, UA.out.trans (kept_below hbc)⟩
            clear hbc u0 u1 u2 u3 u4 u5 v0 v1 v2 v3 v4 v5
            go_wp2_with fail
            go_roundw
            case rel => exact ⟨j + 1, by omega, by rw [HPD.out]; go_num, AC⟩
            case measure => have := HPD.out; simp [intOf]; omega
        · have k1 : ¬ (j : Int) + 1 ≤ (ll : Int) := by omega
          have RXX : Hid (∀ W, AW K W P AX AY s4 s → Calls Try.prog 19 #[.pointer (some ⟨AX, 0, none⟩)] W fun e w' => e = .returned (.int .i64 s.root) ∧ w' = W) := fun W hw => by obtain ⟨F, hp⟩ := hw.px; have := px_root hp; rw [HS4R.out] at this; exact this
          have RYY : Hid (∀ W, AW K W P AX AY s4 s → Calls Try.prog 28 #[.pointer (some ⟨AY, 0, none⟩)] W fun e w' => e = .returned (.int .i64 s.root) ∧ w' = W) := fun W hw => by obtain ⟨F, hp⟩ := hw.rx; exact rx_root hp
          have AD := hide (HJ.out.1.below (below_drew (Below.refl wt.heap.size wt)))
          generalize s.root = sr at *
          go_wp2_with fail
          refine keep HUS.out ?_
          go_wp2_with fail
          go_region_held3 (fun W' => W'.cell? ⟨P, 0, none⟩ = some (.pointer (some ⟨AX, 0, none⟩)) ∧ W'.cell? ⟨P, 1, none⟩ = some (.pointer (some ⟨AY, 0, none⟩))) (go_keep) (first
            | (go_at_call 28; refine keep (RYY.out wt.drew AD.out) ?_)
            | (go_at_call 19; refine keep (RXX.out wt.drew AD.out) ?_)
            | fail)
          go_wp2_with fail
          go_ret
          exact ⟨by simp, HBX.out _ (HJ.out.2.drew)⟩

end Go.Proofs.Ytfpogjgbmibmcaa
