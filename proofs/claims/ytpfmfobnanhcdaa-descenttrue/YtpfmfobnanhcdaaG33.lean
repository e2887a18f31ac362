/- DescentTrue: the walk. -/
import Derived.Test.YtpfmfobnanhcdaaG32
import Derived.Deep.CutBlock
import Derived.Deep.AppendLies
namespace Go.Proofs.Ytpfmfobnanhcdaa
open Go.RowKit
set_option maxRecDepth 100000

theorem infoPM : (Try.prog.info? 43).map (fun i => (i.zero, i.size, i.bytes)) = some (some (.pointer none), 1, 8) := by kernel_rfl
theorem infoTS : (Try.prog.info? 28).map (fun i => (i.zero, i.size, i.bytes)) = some (some (.slice none 0 0), 1, 24) := by kernel_rfl
theorem infoIN : (Try.prog.info? 3).map (fun i => (i.zero, i.size, i.bytes)) = some (some (.int .i64 0), 1, 8) := by kernel_rfl
/-- What holds between two rounds. -/
def DI (w : World) (i n : Nat) (W : World) (P AX AY : Nat) (v6 v7 v8 : Value) : Prop :=
  ∃ K lab s L T Z, DT w K lab i W P AX AY s L v6 v7 v8 (L.map Prod.fst) T Z ∧ L.length = n ∧ T.length = n ∧ Z.length = n ∧ n ≤ i ∧ (∀ j (h : j < L.length) (h1 : j < T.length) (h2 : j < Z.length), T[j].s = L[j].2.key ∧ Z[j] = L[j].2.lev ∧ T[j].Ok w ∧ TI s L[j].2 (2 * i))
theorem one_newD {w : World} {u : Value} {T : TypeId} : ∀ j x, [u][j]? = some x → (w.alloc (.cells #[u] T)).cell? ((⟨w.heap.size, 0, none⟩ : Addr).add j) = some x := by
  intro j x hx
  match j, hx with
  | 0, hx => rw [Addr.add_lit, cell_of_row _ _ _ _ _ _ (heap_alloc_new w _)]; simpa using hx
  | j + 1, hx => simp at hx
set_option maxRecDepth 100000 in
set_option maxHeartbeats 12800000 in
theorem descentTrue_any (aS : Option Addr) (lS cS : Nat) (O : List DOp) (w : World) (hL : O.length = lS) (hO : DOps (fun k => k < w.heap.size) w aS O) (hlS : lS * 200 ≤ 140737488355328) :
    Calls Try.prog 4 #[.slice aS lS cS] w fun e w' => e = .returned (.bool true) ∧ Below w.heap.size w w' := by
  obtain ⟨i0, hi0, hz0, hz1, hz2⟩ := info_parts infoPM
  obtain ⟨i1, hi1, hy0, hy1, hy2⟩ := info_parts infoTS
  obtain ⟨i2, hi2, hx0, hx1, hx2⟩ := info_parts infoIN
  have HHD := hide (dhead_any w)
  have HBG : Hid (∀ W, Calls Try.prog 9 #[.int .i64 40] W (BegP W 40)) := fun W => begun_good 40 W (by decide) (by decide)
  have HLL := hide hL
  have HO := hide hO
  have hlS2 : (lS : Int) ≤ 9223372036854775807 := by omega
  have HLS := hide hlS
  clear hO hL hlS
  go_enter Try.func4, Try.ntmps4
  go_wp2_with fail
  refine HHD.out.mono ?_
  rintro e wA ⟨rfl, bA⟩
  have BA := hide bA
  clear bA HHD
  go_wp2_with fail
  refine (HBG.out wA).mono ?_
  rintro e w1 ⟨P, AX, AY, rfl, hA, hb⟩
  have HD1 : Hid (DI w 0 0 w1 P AX AY (.slice none 0 0) (.slice none 0 0) (.slice none 0 0)) := by
    refine ⟨_, fun _ => 0, _, [], [], [], ⟨hA, BA.out.trans (hb.mono BA.out.size), fun k hk => .inl (Nat.lt_of_lt_of_le hk BA.out.size), fun _ _ => rfl, fun k hk => absurd rfl hk, fun k hk => absurd rfl hk, rfl, World.ownsRow_nil _ _ _ _, World.ownsRow_nil _ _ _ _, World.ownsRow_nil _ _ _ _, (fun k hk => by cases hk), (fun k hk => by cases hk), (fun k hk => by cases hk), fun i hi => absurd hi (Nat.not_lt_zero i), (fun x hx => by cases hx)⟩, rfl, rfl, rfl, Nat.le_refl _, fun j hj => absurd hj (Nat.not_lt_zero j)⟩
  clear hA hb HBG BA
  go_wp2_with fail
  go_loopw [6, 7, 8, 9] (fun q6 q7 q8 q9 wr => ∃ (i n : Nat) (a6 a7 a8 : Option Addr) (c6 c7 c8 : Nat), i ≤ lS ∧ q6 = .slice a6 n c6 ∧ q7 = .slice a7 n c7 ∧ q8 = .slice a8 n c8 ∧ q9 = .int .i64 (i : Int) ∧ Hid (DI w i n wr P AX AY (.slice a6 n c6) (.slice a7 n c7) (.slice a8 n c8))) (fun _ _ _ q9 _ => lS - (intOf q9).toNat)
  case atStart => exact ⟨0, 0, none, none, none, 0, 0, 0, Nat.zero_le _, rfl, rfl, rfl, rfl, HD1⟩
  case round =>
    clear HD1
    obtain ⟨i, n, a6, a7, a8, c6, c7, c8, hi, rfl, rfl, rfl, rfl, HI⟩ := hrel
    rename World => wr
    by_cases hlt : i < lS
    · have j1 : (i : Int) < (lS : Int) := by omega
      have hiL : i < O.length := by rw [HLL.out]; exact hlt
      obtain ⟨K, lab, s, L, T, Z, hD, hLn, hTn, hZn, hni, hall⟩ := HI.out
      have hops := HO.out.move hD.bw hD.kb
      have hok0 := HO.out.ok O[i] (List.getElem_mem hiL)
      obtain ⟨ob, oo, hoa, hoc⟩ := hops.c i hiL
      subst hoa
      have oko := hops.ok O[i] (List.getElem_mem hiL)
      generalize O[i] = op at *
      obtain ⟨kd, oa, obb, ⟨xa, xc, xs⟩, rawop⟩ := op
      obtain ⟨ok1, oa1, ob1, okey, oraw⟩ := oko
      have okw := hok0.key
      simp only at ok1 oa1 ob1 okey oraw okw
      have hoc' := hoc
      simp only [DOp.cs, Tx.v] at hoc'
      obtain ⟨kd2, ra, rb, rw', ch', ⟨lv, ⟨ha, hc, hs⟩, ri, ⟨ka, kc, KL⟩, ⟨va, vc, V⟩, ⟨ca, cc, C⟩⟩⟩ := rawop
      have HRAW : Hid (∀ W, Below wr.heap.size wr W → Calls Try.prog 13 #[.pointer (some ⟨P, 0, none⟩), (⟨kd2, ra, rb, rw', true, ⟨lv, ⟨ha, hc, hs⟩, ri, ⟨ka, kc, KL⟩, ⟨va, vc, V⟩, ⟨ca, cc, C⟩⟩⟩ : AOp).v] W fun e w' => e = .returned (.bool true) ∧ DI w (i + 1) n w' P AX AY (.slice a6 n c6) (.slice a7 n c7) (.slice a8 n c8)) := fun W hb => by
        refine (raw_any ((hD.below hb).aw) ⟨kd2, ra, rb, rw', true, ⟨lv, ⟨ha, hc, hs⟩, ri, ⟨ka, kc, KL⟩, ⟨va, vc, V⟩, ⟨ca, cc, C⟩⟩⟩ ⟨oraw.k1, oraw.a1, oraw.b1, oraw.w1, oraw.n.below hb, oraw.i⟩).mono ?_
        rintro e w' ⟨rfl, hA, hU⟩
        refine ⟨rfl, K, lab, _, L, T, Z, ((hD.below hb).raw hA hU).less (by omega), hLn, hTn, hZn, by omega, fun j h h1 h2 => ?_⟩
        obtain ⟨g1, g2, g3, g4⟩ := hall j h h1 h2
        exact ⟨g1, g2, g3, (g4.raw (fun k hk => by obtain ⟨F, hF⟩ := hD.aw.px; exact px_wlt hF k hk) ⟨kd2, ra, rb, rw', true, ⟨lv, ⟨ha, hc, hs⟩, ri, ⟨ka, kc, KL⟩, ⟨va, vc, V⟩, ⟨ca, cc, C⟩⟩⟩ oraw.w1 rfl).mono (by omega)⟩
      simp only [AOp.v, Tx.v, TL.v, IL.v] at HRAW hoc'
      clear hoc
      have hoc := hoc'
      clear hoc'
      obtain ⟨lx, hlx⟩ : ∃ lx, xs.length = lx := ⟨_, rfl⟩
      rw [hlx] at hoc
      have HLX := hide hlx
      generalize hs.length = lh at *
      generalize KL.length = lk at *
      generalize V.length = lw at *
      generalize C.length = lc at *
      have e0 : wr.cell? ⟨ob, oo + i * 15, none⟩ = some (.int .i64 kd) := hoc 0 _ rfl
      have e1 : wr.cell? ⟨ob, oo + i * 15 + 1, none⟩ = some (.int .i64 oa) := hoc 1 _ rfl
      have e2 : wr.cell? ⟨ob, oo + i * 15 + 2, none⟩ = some (.int .i64 obb) := hoc 2 _ rfl
      have e3 : wr.cell? ⟨ob, oo + i * 15 + 3, none⟩ = some (.slice xa lx xc) := hoc 3 _ rfl
      have e4 : wr.cell? ⟨ob, oo + i * 15 + 4, none⟩ = some (.int .i64 kd2) := hoc 4 _ rfl
      have e5 : wr.cell? ⟨ob, oo + i * 15 + 5, none⟩ = some (.int .i64 ra) := hoc 5 _ rfl
      have e6 : wr.cell? ⟨ob, oo + i * 15 + 6, none⟩ = some (.int .i64 rb) := hoc 6 _ rfl
      have e7 : wr.cell? ⟨ob, oo + i * 15 + 7, none⟩ = some (.int .u64 (rw' : Nat)) := hoc 7 _ rfl
      have e8 : wr.cell? ⟨ob, oo + i * 15 + 8, none⟩ = some (.bool ch') := hoc 8 _ rfl
      have e9 : wr.cell? ⟨ob, oo + i * 15 + 9, none⟩ = some (.int .i64 lv) := hoc 9 _ rfl
      have e10 : wr.cell? ⟨ob, oo + i * 15 + 10, none⟩ = some (.slice ha lh hc) := hoc 10 _ rfl
      have e11 : wr.cell? ⟨ob, oo + i * 15 + 11, none⟩ = some (.int .i64 ri) := hoc 11 _ rfl
      have e12 : wr.cell? ⟨ob, oo + i * 15 + 12, none⟩ = some (.slice ka lk kc) := hoc 12 _ rfl
      have e13 : wr.cell? ⟨ob, oo + i * 15 + 13, none⟩ = some (.slice va lw vc) := hoc 13 _ rfl
      have e14 : wr.cell? ⟨ob, oo + i * 15 + 14, none⟩ = some (.slice ca lc cc) := hoc 14 _ rfl
      have HKEY := hide okey
      have HKW := hide okw
      have HDW := hide hD
      have HALL := hide hall
      have HLN := hide (And.intro hLn (And.intro hTn (And.intro hZn hni)))
      obtain ⟨wb, hwb⟩ : ∃ wb, wb = wr.alloc (.cells #[.int .i64 kd, .int .i64 oa, .int .i64 obb, .slice xa lx xc, .int .i64 kd2, .int .i64 ra, .int .i64 rb, .int .u64 (rw' : Nat), .bool ch', .int .i64 lv, .slice ha lh hc, .int .i64 ri, .slice ka lk kc, .slice va lw vc, .slice ca lc cc] 41) := ⟨_, rfl⟩
      have bb : Below wr.heap.size wr wb := by rw [hwb]; exact (Below.refl _ _).alloc (Nat.le_refl _) _
      have GB : Hid (wb.heap[wr.heap.size]? = some (.cells #[.int .i64 kd, .int .i64 oa, .int .i64 obb, .slice xa lx xc, .int .i64 kd2, .int .i64 ra, .int .i64 rb, .int .u64 (rw' : Nat), .bool ch', .int .i64 lv, .slice ha lh hc, .int .i64 ri, .slice ka lk kc, .slice va lw vc, .slice ca lc cc] 41 (0, 0))) := by show _ = _; rw [hwb]; exact heap_alloc_new wr _
      have BB := hide bb
      have HWB := hide hwb
      have HSB : Hid (wr.heap.size < wb.heap.size) := lt_of_block GB.out
      have c0 : wb.cell? ⟨wr.heap.size, 0, none⟩ = some (.int .i64 kd) := by rw [cell_of_row _ _ _ _ _ _ GB.out]; rfl
      have HPK := hide (pick12_any kd 4 wb (by decide) (by decide) ok1.1 ok1.2)
      have OA1 := hide oa1
      clear hops hok0 okey okw oraw hlx hD hLn hTn hZn hni hall HI bb hwb hoc oa1 ob1 ok1
      simp only [show (((4 : Nat)) : Int) = 4 from rfl] at HPK
      obtain ⟨k4, hk4⟩ : ∃ k4, k4 = ((pickN kd 4 : Nat) : Int) := ⟨_, rfl⟩
      rw [← hk4] at HPK
      go_upto_region 12 with fail
      rw [← HWB.out]
      clear HWB e0 e1 e2 e3 e4 e5 e6 e7 e8 e9 e10 e11 e12 e13 e14
      go_wp2_with fail
      refine keep HPK.out ?_
      clear HPK hk4
      by_cases h0 : k4 = 0
      · subst h0
        as_aux_lemma =>
          obtain ⟨lv4, hlv4⟩ : ∃ lv4, lv4 = ((pickN oa 4 : Nat) : Int) := ⟨_, rfl⟩
          have HPA : Hid (∀ W, Calls Try.prog 10 #[.int .i64 oa, .int .i64 4] W fun e w' => e = .returned (.int .i64 lv4) ∧ w' = W) := fun W => by have := pick12_any oa 4 W (by decide) (by decide) OA1.out.1 OA1.out.2; rw [hlv4]; simpa using this
          have HNX : Hid (∀ W', Below wb.heap.size wb W' → Calls Try.prog 11 #[.pointer (some ⟨AX, 0, none⟩), .slice xa lx xc, .int .i64 lv4] W' fun e w' => ∃ p k n D, e = .returned (.pointer (some ⟨p, 0, none⟩)) ∧ PM w' p AX k n D (MS.new xs lv4) ∧ wb.heap.size ≤ p ∧ (∀ x, D x → wb.heap.size ≤ x) ∧ Below wb.heap.size wb w') := fun W' hb => by
            have := dnew_any (A := AX) ⟨xa, xc, xs⟩ lv4 ((HKEY.out.below BB.out).below hb)
            simp only [Tx.v, HLX.out] at this
            exact this.mono fun e w' h => by obtain ⟨p, k, n, D, h1, h2, h3, h4, h5⟩ := h; exact ⟨p, k, n, D, h1, h2, Nat.le_trans hb.size h3, fun x hx => Nat.le_trans hb.size (h4 x hx), hb.trans (h5.mono hb.size)⟩
          have HDB := hide (HDW.out.below BB.out)
          obtain ⟨p0, _⟩ := HDB.out.aw.cells
          have p1 : wb.cell? ⟨wr.heap.size, 1, none⟩ = some (.int .i64 oa) := by rw [cell_of_row _ _ _ _ _ _ GB.out]; rfl
          have p3 : wb.cell? ⟨wr.heap.size, 3, none⟩ = some (.slice xa lx xc) := by rw [cell_of_row _ _ _ _ _ _ GB.out]; rfl
          have hPk := HDB.out.plt
          have hBk := HSB.out
          have hlb : lab wr.heap.size = 0 := HDW.out.lz _ (Nat.le_refl _)
          have hls := HLS.out
          have hni := HLN.out.2.2.2
          have hn63 : n + 1 ≤ maxLen := by unfold maxLen; omega
          have hn8 : (n + 1) * 8 ≤ 140737488355328 := by omega
          have hn24 : (n + 1) * 24 ≤ 140737488355328 := by omega
          have HUP : Hid (∀ (x : Value) (A B : World), A.grownBy B x.ownBlock → Upd (fun k => x.ownBlock = some k) A B) := fun x A B hg => Upd.of_grown hg (fun k hk _ => hk)
          have HNL : Hid ((¬ (Value.slice a6 n c6).ownBlock = some P ∧ ¬ (Value.slice a6 n c6).ownBlock = some wr.heap.size) ∧ ¬ (Value.slice a7 n c7).ownBlock = some wr.heap.size) := ⟨⟨(fun e => by have := HDW.out.l6 _ e; rw [HDW.out.lp] at this; cases this), (fun e => by have := HDW.out.l6 _ e; omega)⟩, (fun e => by have := HDW.out.l7 _ e; omega)⟩
          clear hlv4 c0 hlb hls hni HRAW
          go_wp2_with fail
          go_region_held3 (fun W' => W'.cell? ⟨P, 0, none⟩ = some (.pointer (some ⟨AX, 0, none⟩)) ∧ W'.cell? ⟨wr.heap.size, 1, none⟩ = some (.int .i64 oa) ∧ W'.cell? ⟨wr.heap.size, 3, none⟩ = some (.slice xa lx xc)) (go_keep) (first
            | (refine step_append_lies _ rfl (.tmp 173) (.tmp 184) 55 rfl w.heap.size 43 i0 (.pointer none) 1 8 Try.underlying55 hi0 hz0 hz1 hz2 rfl (by decide) (.slice a6 n c6) n ((L.map Prod.fst).map ptrV) (by simp [Act.eval]) HR6.out ⟨w2.heap.size, 0, none⟩ 1 1 [ptrV pp] (by simp [Act.eval]) rfl one_newD (by intro u hu; simp only [List.mem_singleton] at hu; subst hu; rfl) (by decide) hn63 hn8 HWL.out _ rfl ?_; intro g6 cap6 w3 ho6 hg6 hor6 hgl6; have HP3 := hide (HPUSH.out g6 cap6 w3 ho6 hg6 (hor6.imp id (fun e => by rw [e]; exact Nat.le_refl _))); have hu3 := (HUP.out (.slice a6 n c6) _ w3 hg6); have z0 := hu3.cell y0 HNL.out.1.1; have z1 := hu3.cell y1 HNL.out.1.2; have z3 := hu3.cell y3 HNL.out.1.2; clear ho6 hg6 hor6 hgl6 hu3)
            | (go_at_call 11; refine (HNX.out _ (below_drew (Below.refl _ _))).mono ?_; rintro e w2 ⟨pp, k2, n2', D2, rfl, hm, hp, hD2, hbk⟩; have y0 := (cell_alloc_old w2 (Nat.lt_of_lt_of_le hPk hbk.size) 0 (.cells #[ptrV pp] 43)).trans ((hbk.cell (p := ⟨P, 0, none⟩) hPk).trans p0); have y1 := (cell_alloc_old w2 (Nat.lt_of_lt_of_le hBk hbk.size) 1 (.cells #[ptrV pp] 43)).trans ((hbk.cell (p := ⟨wr.heap.size, 1, none⟩) hBk).trans p1); have y3 := (cell_alloc_old w2 (Nat.lt_of_lt_of_le hBk hbk.size) 3 (.cells #[ptrV pp] 43)).trans ((hbk.cell (p := ⟨wr.heap.size, 3, none⟩) hBk).trans p3); have x0 := (hbk.cell (p := ⟨P, 0, none⟩) hPk).trans p0; have x1 := (hbk.cell (p := ⟨wr.heap.size, 1, none⟩) hBk).trans p1; have x3 := (hbk.cell (p := ⟨wr.heap.size, 3, none⟩) hBk).trans p3; obtain ⟨K2, lab2, hd2⟩ := HDB.out.add hbk hm hp hD2 ⟨Nat.zero_le _, Nat.zero_le _⟩; have hd3 := hd2.below (W' := w2.alloc (.cells #[ptrV pp] 43)) ((Below.refl _ _).alloc (Nat.le_refl _) _); have hq : (L.map Prod.fst).length = n := (by rw [List.length_map]; exact HLN.out.1); have HR6 : Hid ((w2.alloc (.cells #[ptrV pp] 43)).ownsRow w.heap.size 43 1 (.slice a6 n c6) n ((L.map Prod.fst).map ptrV)) := (by have := hd3.r6; rw [hq] at this; exact this); have HWL : Hid (w.heap.size ≤ (w2.alloc (.cells #[ptrV pp] 43)).heap.size) := hd3.bw.size; have HPUSH : Hid (∀ g cap w3, w3.ownsRow w.heap.size 43 1 (.slice (some ⟨g, 0, none⟩) (n + 1) cap) (n + 1) ((L.map Prod.fst).map ptrV ++ [ptrV pp]) → (w2.alloc (.cells #[ptrV pp] 43)).grownBy w3 (Value.slice a6 n c6).ownBlock → ((Value.slice a6 n c6).ownBlock = some g ∨ (w2.alloc (.cells #[ptrV pp] 43)).heap.size ≤ g) → StpT w i P AX AY s (L ++ [(pp, MS.new xs lv4)]) (.slice (some ⟨g, 0, none⟩) (n + 1) cap) (.slice a7 n c7) (.slice a8 n c8) (L.map Prod.fst ++ [pp]) T Z w3) := (fun g cap w3 ho hg hor => by have := hd3.push6 (g := g) (cap := cap) pp (by rw [hq]; exact ho) hg hor; rw [hq] at this; exact this); clear hd2 hd3 hq; clear hm hp hD2 hbk)
            | (go_at_call 10; refine keep (HPA.out _) ?_)
            | fail)
          obtain ⟨K3, lab3, hd3⟩ := HP3.out
          obtain ⟨wq, hwq⟩ : ∃ wq, wq = w3.alloc (.cells #[.slice xa lx xc] 28) := ⟨_, rfl⟩
          have bq : Below w3.heap.size w3 wq := by rw [hwq]; exact (Below.refl _ _).alloc (Nat.le_refl _) _
          have hdq := hd3.below bq
          have HR7 : Hid (wq.ownsRow w.heap.size 28 1 (.slice a7 n c7) n (T.map Tx.v)) := by have := hdq.r7; rw [HLN.out.2.1] at this; exact this
          have HW7 : Hid (w.heap.size ≤ wq.heap.size) := hdq.bw.size
          have z1q : wq.cell? ⟨wr.heap.size, 1, none⟩ = some (.int .i64 oa) := (bq.cell (p := ⟨wr.heap.size, 1, none⟩) (World.block_lt_of_cell? w3 _ z1)).trans z1
          have HXV : Hid ((⟨xa, xc, xs⟩ : Tx).v = .slice xa lx xc) := by show _ = _; simp only [Tx.v, HLX.out]
          have HP7 : Hid (∀ g cap w4, w4.ownsRow w.heap.size 28 1 (.slice (some ⟨g, 0, none⟩) (n + 1) cap) (n + 1) (T.map Tx.v ++ [.slice xa lx xc]) → wq.grownBy w4 (Value.slice a7 n c7).ownBlock → ((Value.slice a7 n c7).ownBlock = some g ∨ wq.heap.size ≤ g) → StpT w i P AX AY s (L ++ [(pp, MS.new xs lv4)]) (.slice (some ⟨g6, 0, none⟩) (n + 1) cap6) (.slice (some ⟨g, 0, none⟩) (n + 1) cap) (.slice a8 n c8) (L.map Prod.fst ++ [pp]) (T ++ [⟨xa, xc, xs⟩]) Z w4) := fun g cap w4 ho hg hor => by
            have := hdq.push7 (g := g) (cap := cap) ⟨xa, xc, xs⟩ (by rw [HLN.out.2.1, HXV.out]; exact ho) hg hor
            rw [HLN.out.2.1] at this
            exact this
          have HN7 : Hid (∀ j u, [Value.slice xa lx xc][j]? = some u → wq.cell? ((⟨w3.heap.size, 0, none⟩ : Addr).add j) = some u) := by show ∀ j u, _; rw [hwq]; exact one_newD
          have HWQ := hide hwq
          clear hwq bq hd3 hdq HP3 p0 p1 p3 z0
          go_wp2_with (first
            | (at_builtin; rw [← HWQ.out]; refine append_mineN rfl (.tmp 186) (.tmp 189) 32 rfl w.heap.size 28 i1 (.slice none 0 0) 1 24 Try.underlying32 hi1 hy0 hy1 hy2 rfl (by decide) (.slice a7 n c7) n (T.map Tx.v) rfl HR7.out ⟨w3.heap.size, 0, none⟩ 1 1 [.slice xa lx xc] rfl rfl HN7.out (by intro u hu; simp only [List.mem_singleton] at hu; subst hu; rfl) (by decide) hn63 hn24 HW7.out ?_; intro g7 cap7 w4 ho7 hg7 hor7; have HP4 := hide (HP7.out g7 cap7 w4 ho7 hg7 hor7); have q1 := (HUP.out (.slice a7 n c7) _ w4 hg7).cell z1q HNL.out.2; clear ho7 hg7 hor7)
            | fail)
          refine keep (HPA.out _) ?_
          obtain ⟨K4, lab4, hd4⟩ := HP4.out
          obtain ⟨wz, hwz⟩ : ∃ wz, wz = w4.alloc (.cells #[.int .i64 lv4] 3) := ⟨_, rfl⟩
          have bz : Below w4.heap.size w4 wz := by rw [hwz]; exact (Below.refl _ _).alloc (Nat.le_refl _) _
          have hdz := hd4.below bz
          have HR8 : Hid (wz.ownsRow w.heap.size 3 1 (.slice a8 n c8) n (Z.map (Value.int .i64))) := by have := hdz.r8; rw [HLN.out.2.2.1] at this; exact this
          have HW8 : Hid (w.heap.size ≤ wz.heap.size) := hdz.bw.size
          have HN8 : Hid (∀ j u, [Value.int .i64 lv4][j]? = some u → wz.cell? ((⟨w4.heap.size, 0, none⟩ : Addr).add j) = some u) := by show ∀ j u, _; rw [hwz]; exact one_newD
          have HP8 : Hid (∀ g cap w5, w5.ownsRow w.heap.size 3 1 (.slice (some ⟨g, 0, none⟩) (n + 1) cap) (n + 1) (Z.map (Value.int .i64) ++ [.int .i64 lv4]) → wz.grownBy w5 (Value.slice a8 n c8).ownBlock → ((Value.slice a8 n c8).ownBlock = some g ∨ wz.heap.size ≤ g) → DI w (i + 1) (n + 1) w5 P AX AY (.slice (some ⟨g6, 0, none⟩) (n + 1) cap6) (.slice (some ⟨g7, 0, none⟩) (n + 1) cap7) (.slice (some ⟨g, 0, none⟩) (n + 1) cap)) := fun g cap w5 ho hg hor => by
            obtain ⟨K5, lab5, hd5⟩ := hdz.push8 (g := g) (cap := cap) lv4 (by rw [HLN.out.2.2.1]; exact ho) hg hor
            rw [HLN.out.2.2.1] at hd5
            refine ⟨K5, lab5, s, L ++ [(pp, MS.new xs lv4)], T ++ [⟨xa, xc, xs⟩], Z ++ [lv4], by rw [List.map_append]; exact hd5.less (by omega), by rw [List.length_append, HLN.out.1]; rfl, by rw [List.length_append, HLN.out.2.1]; rfl, by rw [List.length_append, HLN.out.2.2.1]; rfl, Nat.succ_le_succ HLN.out.2.2.2, fun j h h1 h2 => ?_⟩
            by_cases e : j < n
            · have e1 : j < L.length := by rw [HLN.out.1]; exact e
              have e2 : j < T.length := by rw [HLN.out.2.1]; exact e
              have e3 : j < Z.length := by rw [HLN.out.2.2.1]; exact e
              rw [List.getElem_append_left e1, List.getElem_append_left e2, List.getElem_append_left e3]
              obtain ⟨g1, g2, g3, g4⟩ := HALL.out j e1 e2 e3
              exact ⟨g1, g2, g3, g4.mono (by omega)⟩
            · have hj : j = n := by rw [List.length_append, HLN.out.1, List.length_singleton] at h; omega
              have e1 : L.length ≤ j := by rw [HLN.out.1]; omega
              have e2 : T.length ≤ j := by rw [HLN.out.2.1]; omega
              have e3 : Z.length ≤ j := by rw [HLN.out.2.2.1]; omega
              rw [List.getElem_append_right e1, List.getElem_append_right e2, List.getElem_append_right e3]
              simp only [List.getElem_singleton]
              exact ⟨rfl, rfl, HKW.out, TI.new _ _ _ _⟩
          have HWZ := hide hwz
          clear hwz bz hd4 hdz HP4
          go_wp2_with (first
            | (at_builtin; rw [← HWZ.out]; refine append_mineN rfl (.tmp 191) (.tmp 195) 33 rfl w.heap.size 3 i2 (.int .i64 0) 1 8 Try.underlying33 hi2 hx0 hx1 hx2 rfl (by decide) (.slice a8 n c8) n (Z.map (Value.int .i64)) rfl HR8.out ⟨w4.heap.size, 0, none⟩ 1 1 [.int .i64 lv4] rfl rfl HN8.out (by intro u hu; simp only [List.mem_singleton] at hu; subst hu; rfl) (by decide) hn63 hn8 HW8.out ?_; intro g8 cap8 w5 ho8 hg8 hor8; have HN := hide (HP8.out g8 cap8 w5 ho8 hg8 hor8); clear ho8 hg8 hor8)
            | fail)
          go_roundw
          case rel => exact ⟨i + 1, n + 1, some ⟨g6, 0, none⟩, some ⟨g7, 0, none⟩, some ⟨g8, 0, none⟩, cap6, cap7, cap8, by omega, rfl, rfl, rfl, by go_num, HN⟩
          case measure => simp [intOf]; omega

      · by_cases h3 : k4 = 3
        · subst h3
          clear h0
          as_aux_lemma =>
            have HW2 : Hid (∀ e w', (e = Ending.returned (.bool true) ∧ DI w (i + 1) n w' P AX AY (.slice a6 n c6) (.slice a7 n c7) (.slice a8 n c8)) → True) := fun _ _ _ => trivial
            clear HW2
            have f8 := frozen_of GB.out 8
            have c8' : wb.cell? ⟨wr.heap.size, 8, none⟩ = some (.bool ch') := by rw [cell_of_row _ _ _ _ _ _ GB.out]; rfl
            obtain ⟨wc, hwc⟩ : ∃ wc, wc = wb.setCell ⟨wr.heap.size, 8, none⟩ (.bool true) := ⟨_, rfl⟩
            have GC : Hid (wc.heap[wr.heap.size]? = some (.cells #[.int .i64 kd, .int .i64 oa, .int .i64 obb, .slice xa lx xc, .int .i64 kd2, .int .i64 ra, .int .i64 rb, .int .u64 (rw' : Nat), .bool true, .int .i64 lv, .slice ha lh hc, .int .i64 ri, .slice ka lk kc, .slice va lw vc, .slice ca lc cc] 41 (0, 0))) := by show _ = _; rw [hwc]; exact m15_8 GB.out _
            have BC : Hid (Below wr.heap.size wr wc) := by
              show Below _ _ _
              rw [hwc]
              exact BB.out.trans ((upd_set (fun k => k = wr.heap.size) wb wr.heap.size 8 _ rfl).below BB.out.size (fun k hk e => by omega))
            have HRB := hide (HRAW.out wc BC.out)
            have HWC := hide hwc
            clear hwc
            have e4 : wc.cell? ⟨wr.heap.size, 4, none⟩ = some (.int .i64 kd2) := by rw [cell_of_row _ _ _ _ _ _ GC.out]; rfl
            have e5 : wc.cell? ⟨wr.heap.size, 5, none⟩ = some (.int .i64 ra) := by rw [cell_of_row _ _ _ _ _ _ GC.out]; rfl
            have e6 : wc.cell? ⟨wr.heap.size, 6, none⟩ = some (.int .i64 rb) := by rw [cell_of_row _ _ _ _ _ _ GC.out]; rfl
            have e7 : wc.cell? ⟨wr.heap.size, 7, none⟩ = some (.int .u64 (rw' : Nat)) := by rw [cell_of_row _ _ _ _ _ _ GC.out]; rfl
            have e8 : wc.cell? ⟨wr.heap.size, 8, none⟩ = some (.bool true) := by rw [cell_of_row _ _ _ _ _ _ GC.out]; rfl
            have e9 : wc.cell? ⟨wr.heap.size, 9, none⟩ = some (.int .i64 lv) := by rw [cell_of_row _ _ _ _ _ _ GC.out]; rfl
            have e10 : wc.cell? ⟨wr.heap.size, 10, none⟩ = some (.slice ha lh hc) := by rw [cell_of_row _ _ _ _ _ _ GC.out]; rfl
            have e11 : wc.cell? ⟨wr.heap.size, 11, none⟩ = some (.int .i64 ri) := by rw [cell_of_row _ _ _ _ _ _ GC.out]; rfl
            have e12 : wc.cell? ⟨wr.heap.size, 12, none⟩ = some (.slice ka lk kc) := by rw [cell_of_row _ _ _ _ _ _ GC.out]; rfl
            have e13 : wc.cell? ⟨wr.heap.size, 13, none⟩ = some (.slice va lw vc) := by rw [cell_of_row _ _ _ _ _ _ GC.out]; rfl
            have e14 : wc.cell? ⟨wr.heap.size, 14, none⟩ = some (.slice ca lc cc) := by rw [cell_of_row _ _ _ _ _ _ GC.out]; rfl
            go_upto_region 32 with fail
            rw [← HWC.out]
            clear HWC f8 c8' c0
            go_wp2_with fail
            refine HRB.out.mono ?_
            rintro e w3 ⟨rfl, hI⟩
            have HN := hide hI
            clear hI HRB HRAW e4 e5 e6 e7 e8 e9 e10 e11 e12 e13 e14
            go_wp2_with fail
            go_roundw
            case rel => exact ⟨i + 1, n, a6, a7, a8, c6, c7, c8, by omega, rfl, rfl, rfl, by go_num, HN⟩
            case measure => simp [intOf]; omega

        · as_aux_lemma =>
            by_cases hn0 : n = 0
            · subst hn0
              have HN : Hid (DI w (i + 1) 0 wb P AX AY (.slice a6 0 c6) (.slice a7 0 c7) (.slice a8 0 c8)) := ⟨K, lab, s, L, T, Z, (HDW.out.below BB.out).less (by omega), HLN.out.1, HLN.out.2.1, HLN.out.2.2.1, Nat.zero_le _, fun j h h1 h2 => by rw [HLN.out.1] at h; omega⟩
              clear HRAW
              go_wp2_with fail
              go_roundw
              case rel => exact ⟨i + 1, 0, a6, a7, a8, c6, c7, c8, by omega, rfl, rfl, rfl, by go_num, HN⟩
              case measure => simp [intOf]; omega
            · have jn : ¬ (n : Int) = 0 := by omega
              have c1 : wb.cell? ⟨wr.heap.size, 1, none⟩ = some (.int .i64 oa) := by rw [cell_of_row _ _ _ _ _ _ GB.out]; rfl
              have hni := HLN.out.2.2.2
              have hls := HLS.out
              have HP1 := hide (pick12_any oa n wb (by omega) (by omega) OA1.out.1 OA1.out.2)
              have hp1 := pickN_lt oa n (by omega)
              obtain ⟨kp, hkp⟩ : ∃ kp, kp = pickN oa n := ⟨_, rfl⟩
              rw [← hkp] at HP1 hp1
              have hkL : kp < L.length := by rw [HLN.out.1]; exact hp1
              have hkT : kp < T.length := by rw [HLN.out.2.1]; exact hp1
              have hkZ : kp < Z.length := by rw [HLN.out.2.2.1]; exact hp1
              obtain ⟨gkey, glev, gok, gti⟩ := HALL.out kp hkL hkT hkZ
              have HDB := hide (HDW.out.below BB.out)
              obtain ⟨g6, hg6, q6⟩ := own_at HDB.out.r6 (i := kp) (by simp; exact hkL) (by simp; omega)
              subst hg6
              simp only [List.getElem_map, ptrV] at q6
              obtain ⟨pp, hpp⟩ : ∃ pp, pp = L[kp].1 := ⟨_, rfl⟩
              obtain ⟨m, hm⟩ : ∃ m, m = L[kp].2 := ⟨_, rfl⟩
              rw [← hpp] at q6
              rw [← hm] at gkey glev gti
              obtain ⟨km, nm, Dm, hpm, _, _⟩ := HDB.out.mx kp hkL
              rw [← hpp, ← hm] at hpm
              have HAT1 := hide (dat_all hpm)
              have HLB : Hid (lab wr.heap.size = 0) := HDW.out.lz _ (Nat.le_refl _)
              have HSLT : Hid (∀ k, s.inn k → s.w k < 18446744073709551616) := fun k hk => by obtain ⟨F, hF⟩ := HDB.out.aw.px; exact px_wlt hF k hk
              have hTI := gti.step HSLT.out (by omega)
              have j4 : (kp : Int) < (n : Int) := by omega
              have jn2 : (n : Int) ≤ 9223372036854775807 := by omega
              have HSTP : Hid (∀ W, Below wb.heap.size wb W → Calls Try.prog 14 #[.pointer (some ⟨pp, 0, none⟩)] W fun e w' => e = .returned (.bool (decide (5 ≤ (m.step s).nx))) ∧ StpT w (i + 1) P AX AY s (L.set kp (pp, m.step s)) (.slice (some ⟨g6, 0, none⟩) n c6) (.slice a7 n c7) (.slice a8 n c8) (L.map Prod.fst) T Z w' ∧ Upd (fun k => lab k ≠ 0) W w') := fun W hb => by
                have := dt_step (HDB.out.below hb) kp hkL (by omega)
                rw [← hpp, ← hm] at this
                exact this
              have HSET : Hid ((L.set kp (pp, m.step s)).map Prod.fst = L.map Prod.fst) := by
                show _ = _
                apply List.ext_getElem
                · simp
                · intro j h1 h2
                  simp only [List.getElem_map]
                  by_cases e : kp = j
                  · subst e; rw [List.getElem_set_self]; exact hpp
                  · rw [List.getElem_set_ne e]
              have HFIN : Hid (∀ W, StpT w (i + 1) P AX AY s (L.set kp (pp, m.step s)) (.slice (some ⟨g6, 0, none⟩) n c6) (.slice a7 n c7) (.slice a8 n c8) (L.map Prod.fst) T Z W → DI w (i + 1) n W P AX AY (.slice (some ⟨g6, 0, none⟩) n c6) (.slice a7 n c7) (.slice a8 n c8)) := fun W hW => by
                obtain ⟨K', lab', hd⟩ := hW
                refine ⟨K', lab', s, _, T, Z, by rw [HSET.out]; exact hd, by rw [List.length_set]; exact HLN.out.1, HLN.out.2.1, HLN.out.2.2.1, Nat.le_succ_of_le HLN.out.2.2.2, fun j h h1 h2 => ?_⟩
                by_cases e : kp = j
                · subst e
                  rw [List.getElem_set_self]
                  exact ⟨by rw [gkey, hTI.2.2.1], by rw [glev, hTI.2.2.2], gok, hTI.1.mono (by omega)⟩
                · rw [List.getElem_set_ne e]
                  rw [List.length_set] at h
                  obtain ⟨x1, x2, x3, x4⟩ := HALL.out j h h1 h2
                  exact ⟨x1, x2, x3, x4.mono (by omega)⟩
              have HTI := hide hTI
              have HE5 : Hid (m.nx = 5 → 1 ≤ m.id) := gti.e
              have HLE : Hid (m.nx ≤ 6 ∧ (m.nx = 6 → m.id = 0)) := ⟨gti.le, gti.f⟩
              have HGK := hide (And.intro gkey (And.intro glev gok))
              have HKK := hide (And.intro hkT hkZ)
              clear hkp hpp hm hpm gti hTI gkey glev gok hls hni
              go_wp2_with fail
              refine keep HP1.out ?_
              go_wp2_with fail
              refine HAT1.out.mono ?_
              rintro e wx1 ⟨⟨xlv, ⟨xha, xhc, xhs⟩, xri, ⟨xka, xkc, xK⟩, ⟨xva, xvc, xV⟩, ⟨xca, xcc, xC⟩⟩, rfl, xp, xo, xb⟩
              obtain ⟨xlh, xh1⟩ : ∃ x, xhs.length = x := ⟨_, rfl⟩
              obtain ⟨xlk, xh2⟩ : ∃ x, xK.length = x := ⟨_, rfl⟩
              obtain ⟨xlw, xh3⟩ : ∃ x, xV.length = x := ⟨_, rfl⟩
              obtain ⟨xlc, xh4⟩ : ∃ x, xC.length = x := ⟨_, rfl⟩
              simp only [Nd.v, Tx.v, TL.v, IL.v]
              rw [xh1, xh2, xh3, xh4]
              have xL := hide (And.intro xh1 (And.intro xh2 (And.intro xh3 xh4)))
              clear xh1 xh2 xh3 xh4
              have xB := hide xb
              have B1 := hide (BB.out.trans (xb.mono BB.out.size))
              clear xp xo xb HAT1 HP1
              obtain ⟨w2, hw2⟩ : ∃ w2, w2 = wx1.alloc (.cells #[.int .i64 xlv, .slice xha xlh xhc, .int .i64 xri, .slice xka xlk xkc, .slice xva xlw xvc, .slice xca xlc xcc] 37) := ⟨_, rfl⟩
              have b2 : Below wx1.heap.size wx1 w2 := by rw [hw2]; exact (Below.refl _ _).alloc (Nat.le_refl _) _
              have B2 : Hid (Below wb.heap.size wb w2) := xB.out.trans (b2.mono xB.out.size)
              have q6' : w2.cell? ⟨g6, kp, none⟩ = some (.pointer (some ⟨pp, 0, none⟩)) := (B2.out.cell (p := ⟨g6, kp, none⟩) (World.block_lt_of_cell? wb _ q6)).trans q6
              have HS2 := hide (HSTP.out w2 B2.out)
              have HW2 := hide hw2
              clear hw2 b2 HSTP q6 c1 c0 HRAW
              obtain ⟨m', hm'⟩ : ∃ m', m' = m.step s := ⟨_, rfl⟩
              obtain ⟨th, hth⟩ : ∃ th, th = decide (5 ≤ m'.nx) := ⟨_, rfl⟩
              rw [← hm', ← hth] at HS2
              rw [← hm'] at HTI HFIN HSET
              obtain ⟨oi, hoi⟩ : ∃ oi, oi = m.atI := ⟨_, rfl⟩
              rw [← hoi]
              have HOI := hide hoi
              have HTH := hide hth
              have HMM := hide hm'
              clear hoi hth hm'
              go_upto_region 16 with fail
              rw [← HW2.out]
              clear HW2
              go_wp2_with fail
              refine HS2.out.mono ?_
              rintro e w3 ⟨rfl, hS3, hU3⟩
              obtain ⟨K3, lab3, hd3⟩ := hS3
              obtain ⟨g6', hg6', q63⟩ := own_at hd3.r6 (i := kp) (by simp; exact hkL) (by simp; omega)
              cases hg6'
              simp only [List.getElem_map, ptrV] at q63
              obtain ⟨km, nm, Dm, hpm, _, _⟩ := hd3.mx kp (by rw [List.length_set]; exact hkL)
              rw [List.getElem_set_self] at hpm
              have HPQ : Hid (L[kp].1 = pp) := by
                have := congrArg (fun l => l[kp]?) HSET.out
                simp only [List.getElem?_map, List.getElem?_set_self hkL, List.getElem?_eq_getElem hkL, Option.map_some, Option.some.injEq] at this
                exact this.symm
              rw [HPQ.out] at q63
              have HAT3 := hide (dat_all hpm)
              have HD3 := hide hd3
              clear hU3 hd3 hpm HS2 q6'
              go_wp2_with fail
              refine HAT3.out.mono ?_
              rintro e w4 ⟨⟨ylv, ⟨yha, yhc, yhs⟩, yri, ⟨yka, ykc, yK⟩, ⟨yva, yvc, yV⟩, ⟨yca, ycc, yC⟩⟩, rfl, yp, yo, yb⟩
              obtain ⟨ylh, yh1⟩ : ∃ x, yhs.length = x := ⟨_, rfl⟩
              obtain ⟨ylk, yh2⟩ : ∃ x, yK.length = x := ⟨_, rfl⟩
              obtain ⟨ylw, yh3⟩ : ∃ x, yV.length = x := ⟨_, rfl⟩
              obtain ⟨ylc, yh4⟩ : ∃ x, yC.length = x := ⟨_, rfl⟩
              simp only [Nd.v, Tx.v, TL.v, IL.v]
              rw [yh1, yh2, yh3, yh4]
              have yL := hide (And.intro yh1 (And.intro yh2 (And.intro yh3 yh4)))
              clear yh1 yh2 yh3 yh4
              have YP := hide yp
              have YO := hide yo
              have YB := hide yb
              clear yp yo yb HAT3 q63
              obtain ⟨w5, hw5⟩ : ∃ w5, w5 = w4.alloc (.cells #[.int .i64 ylv, .slice yha ylh yhc, .int .i64 yri, .slice yka ylk ykc, .slice yva ylw yvc, .slice yca ylc ycc] 37) := ⟨_, rfl⟩
              have b5 : Below w4.heap.size w4 w5 := by rw [hw5]; exact (Below.refl _ _).alloc (Nat.le_refl _) _
              have G5 : Hid (w5.heap[w4.heap.size]? = some (.cells #[.int .i64 ylv, .slice yha ylh yhc, .int .i64 yri, .slice yka ylk ykc, .slice yva ylw yvc, .slice yca ylc ycc] 37 (0, 0))) := by show _ = _; rw [hw5]; exact heap_alloc_new w4 _
              have B35 : Hid (Below w3.heap.size w3 w5) := YB.out.trans (b5.mono YB.out.size)
              have HD5 := hide (HD3.out.below B35.out)
              have HF5 : Hid (DI w (i + 1) n w5 P AX AY (.slice (some ⟨g6, 0, none⟩) n c6) (.slice a7 n c7) (.slice a8 n c8)) := HFIN.out w5 ⟨K3, lab3, HD5.out⟩
              have YO5 := hide (YO.out.below b5)
              have HW5 := hide hw5
              clear hw5 b5
              obtain ⟨ni, hni⟩ : ∃ ni, ni = m'.atI := ⟨_, rfl⟩
              rw [← hni]
              obtain ⟨nw, hnw⟩ : ∃ nw, nw = m'.atW := ⟨_, rfl⟩
              rw [← hnw]
              have HNI2 := hide hni
              have HNW := hide hnw
              clear hni hnw
              go_upto_region 18 with fail
              rw [← HW5.out]
              clear HW5
              by_cases ho : 0 < oi
              · go_wp2_with fail
                go_roundw
                case rel => exact ⟨i + 1, n, some ⟨g6, 0, none⟩, a7, a8, c6, c7, c8, by omega, rfl, rfl, rfl, by go_num, HF5⟩
                case measure => simp [intOf]; omega
              by_cases ht : 5 ≤ m'.nx
              case neg =>
                obtain rfl : th = false := by rw [HTH.out, decide_eq_false ht]
                clear HTH
                go_wp2_with fail
                go_roundw
                case rel => exact ⟨i + 1, n, some ⟨g6, 0, none⟩, a7, a8, c6, c7, c8, by omega, rfl, rfl, rfl, by go_num, HF5⟩
                case measure => simp [intOf]; omega
              obtain rfl : th = true := by rw [HTH.out, decide_eq_true ht]
              clear HTH
              by_cases hz : ni = 0
              · subst hz
                clear HNI2
                go_wp2_with fail
                go_roundw
                case rel => exact ⟨i + 1, n, some ⟨g6, 0, none⟩, a7, a8, c6, c7, c8, by omega, rfl, rfl, rfl, by go_num, HF5⟩
                case measure => simp [intOf]; omega
              have hoi := HOI.out
              have hni := HNI2.out
              have hnw := HNW.out
              have hne5 : m.nx ≠ 5 := fun e => by
                have h1 := HE5.out e
                unfold MS.atI at hoi
                rw [if_pos (by omega)] at hoi
                omega
              have hle' := HTI.out.1.le
              have hx5 : m'.nx = 5 := by
                by_cases e : m'.nx = 6
                · have := HTI.out.1.f e
                  unfold MS.atI at hni
                  rw [if_pos ht, this] at hni
                  exact absurd hni hz
                · omega
              have hnow := HTI.out.2.1 hne5 hx5
              have hid : ni = m'.id := by rw [hni]; unfold MS.atI; rw [if_pos ht]
              have hwd : nw = m'.wd := by rw [hnw]; unfold MS.atW; rw [if_pos ht]
              have hnd : m'.atN = m'.nd := by unfold MS.atN; rw [if_pos ht]
              obtain ⟨FX, hFX⟩ := HD5.out.aw.px
              have HWRD := hide (px_word hFX ni)
              have HHDD : Hid (∀ W, Below w5.heap.size w5 W → Calls Try.prog 20 #[.pointer (some ⟨AX, 0, none⟩), .int .i64 ni] W (HdP2 W (s.rd ni) (s.wordE ni))) := fun W hb => px_head (hFX.below hb) ni
              have HBDD : Hid (∀ W, Below w5.heap.size w5 W → Calls Try.prog 21 #[.pointer (some ⟨AX, 0, none⟩), .int .i64 ni] W (BdP2 W (s.rd ni) (s.wordE ni))) := fun W hb => px_body (hFX.below hb) ni
              have hinn : s.inn ni := by rw [hid]; exact hnow.inn
              rw [show s.wordE ni = 0 from if_pos hinn] at HWRD HHDD HBDD
              rw [show s.wordW ni = nw by unfold AS.wordW; rw [if_pos hinn, hwd, hid]; exact hnow.w] at HWRD
              have HRD : Hid (s.rd ni = m'.nd) := by show _ = _; unfold AS.rd; rw [if_pos hinn, hid]; exact hnow.n.symm
              have HEV : Hid (nw % 2 = 0) := by show _ = _; rw [hwd]; exact hnow.ev
              have HBY : Hid (beyB m'.nd.hi m'.key = false) := hnow.bey
              have HLV : Hid (m'.nd.lv = m'.lev) := hnow.lv
              have HNP : Hid ((⟨ylv, ⟨yha, yhc, yhs⟩, yri, ⟨yka, ykc, yK⟩, ⟨yva, yvc, yV⟩, ⟨yca, ycc, yC⟩⟩ : Nd).p = m'.nd) := YP.out.trans hnd
              generalize s.rd ni = q at *
              obtain ⟨d0, _⟩ := HD5.out.aw.cells
              have jz : ¬ ni = 0 := hz
              have jo : ¬ 0 < oi := ho
              clear hnow hid hwd hnd hFX hinn hni hnw hne5 hle' hx5 ht hoi
              go_wp2_with fail
              refine keep HWRD.out ?_
              go_wp2_with fail
              refine (HHDD.out w5 (Below.refl _ _)).mono ?_
              rintro e w6 ⟨⟨ta, tc, ts⟩, rfl, ht1, ht2, ht3, ht4, hb6⟩
              simp only [Tx.v] at ht2 ⊢
              obtain ⟨lt, hltt⟩ : ∃ lt, ts.length = lt := ⟨_, rfl⟩
              rw [hltt]
              have HT1 := hide ht1
              have HT2 := hide ht2
              have HT3 := hide (And.intro ht3 ht4)
              have HLT := hide hltt
              obtain ⟨w7, hw7⟩ : ∃ w7, w7 = w6.alloc (.cells #[.int .i64 q.lv, .slice ta lt tc, .int .i64 q.ri] 31) := ⟨_, rfl⟩
              have b67 : Below w6.heap.size w6 w7 := by rw [hw7]; exact (Below.refl _ _).alloc (Nat.le_refl _) _
              have G7 : Hid (w7.heap[w6.heap.size]? = some (.cells #[.int .i64 q.lv, .slice ta lt tc, .int .i64 q.ri] 31 (0, 0))) := by show _ = _; rw [hw7]; exact heap_alloc_new w6 _
              have B67 := hide b67
              have B57 := hide (hb6.trans (b67.mono hb6.size))
              have HW7 := hide hw7
              have HB7 := hide (HBDD.out w7 B57.out)
              have d0' : w7.cell? ⟨P, 0, none⟩ = some (.pointer (some ⟨AX, 0, none⟩)) := (B57.out.cell (p := ⟨P, 0, none⟩) HD5.out.plt).trans d0
              clear ht1 ht2 ht3 ht4 hltt hb6 hw7 b67 d0 HHDD HBDD
              go_upto_region 21 with fail
              rw [← HW7.out]
              clear HW7
              go_wp2_with fail
              refine HB7.out.mono ?_
              rintro e w8 ⟨⟨k8, kc8, K8⟩, ⟨v8, vc8, V8⟩, ⟨c8', cc8, C8⟩, rfl, hk1, hk2, hk3, ho1, ho2, ho3, hz8, hb8⟩
              simp only [TL.v, IL.v] at ho3 ⊢
              obtain ⟨l1, hl1⟩ : ∃ l1, K8.length = l1 := ⟨_, rfl⟩
              obtain ⟨l2, hl2⟩ : ∃ l2, V8.length = l2 := ⟨_, rfl⟩
              obtain ⟨l3, hl3⟩ : ∃ l3, C8.length = l3 := ⟨_, rfl⟩
              rw [hl1, hl2, hl3]
              have HL8 := hide (And.intro hl1 (And.intro hl2 hl3))
              obtain ⟨w9, hw9⟩ : ∃ w9, w9 = w8.alloc (.cells #[.slice k8 l1 kc8, .slice v8 l2 vc8, .slice c8' l3 cc8] 35) := ⟨_, rfl⟩
              have b9 : Below w8.heap.size w8 w9 := by rw [hw9]; exact (Below.refl _ _).alloc (Nat.le_refl _) _
              have g9 : w9.heap[w8.heap.size]? = some (.cells #[.slice k8 l1 kc8, .slice v8 l2 vc8, .slice c8' l3 cc8] 35 (0, 0)) := by rw [hw9]; exact heap_alloc_new w8 _
              have B79 := hide (hb8.trans (b9.mono hb8.size))
              have B59 := hide (B57.out.trans (B79.out.mono B57.out.size))
              have g79 := (B79.out.block _ (lt_of_block G7.out)).trans G7.out
              have g59 := (B59.out.block _ (lt_of_block G5.out)).trans G5.out
              have HND := nd_own (W0 := w5) (W1 := w6) (W2 := w7) (W3 := w8) (W := w9) (q := q) (t := ⟨ta, tc, ts⟩) (k := ⟨k8, kc8, K8⟩) (v := ⟨v8, vc8, V8⟩) (c := ⟨c8', cc8, C8⟩) HT1.out HT2.out HT3.out.1 HT3.out.2 hk1 hk2 hk3 ho1 ho2 ho3 hz8 (B67.out.trans (B79.out.mono B67.out.size)) b9 B57.out.size
              have YO9 := hide (YO5.out.below B59.out)
              have SNP : (⟨ylv, ⟨yha, yhc, yhs⟩, yri, ⟨yka, ykc, yK⟩, ⟨yva, yvc, yV⟩, ⟨yca, ycc, yC⟩⟩ : Nd).p = (⟨q.lv, ⟨ta, tc, ts⟩, q.ri, ⟨k8, kc8, K8⟩, ⟨v8, vc8, V8⟩, ⟨c8', cc8, C8⟩⟩ : Nd).p := by rw [HNP.out, ← HRD.out]; exact HND.2.2.symm
              have SN := hide (sameNode_any (⟨ylv, ⟨yha, yhc, yhs⟩, yri, ⟨yka, ykc, yK⟩, ⟨yva, yvc, yV⟩, ⟨yca, ycc, yC⟩⟩ : Nd) ⟨q.lv, ⟨ta, tc, ts⟩, q.ri, ⟨k8, kc8, K8⟩, ⟨v8, vc8, V8⟩, ⟨c8', cc8, C8⟩⟩ w9 YO9.out.ok HND.1 SNP)
              simp only [Nd.v, Tx.v, TL.v, IL.v, HLT.out, HL8.out.1, HL8.out.2.1, HL8.out.2.2, yL.out.1, yL.out.2.1, yL.out.2.2.1, yL.out.2.2.2] at SN
              obtain ⟨y0, y1, y2, y3, y4, y5⟩ := Six.of g59
              obtain ⟨m0, m1, m2⟩ := three_new g79
              obtain ⟨n0, n1, n2⟩ := three_new g9
              have G59 := hide g59
              have HW9 := hide hw9
              clear hw9 b9 g9 g79 g59 HND SNP hk1 hk2 hk3 ho1 ho2 ho3 hz8 hb8 hl1 hl2 hl3 HB7 d0'
              go_upto_region 22 with fail
              rw [← HW9.out]
              clear HW9
              go_wp2_with fail
              refine SN.out.mono ?_
              rintro e wa ⟨rfl, ba⟩
              have B5a := hide (B59.out.trans (ba.mono B59.out.size))
              have ga := (ba.block _ (lt_of_block G59.out)).trans G59.out
              have HDa := hide (HD5.out.below B5a.out)
              have GA := hide ga
              obtain ⟨s0, s1, s2, s3, s4, s5⟩ := Six.of ga
              obtain ⟨g7, hg7, q7⟩ := own_at HDa.out.r7 (i := kp) (by simp; exact HKK.out.1) (by have := HKK.out.1; omega)
              subst hg7
              obtain ⟨g8, hg8, q8⟩ := own_at HDa.out.r8 (i := kp) (by simp; exact HKK.out.2) (by have := HKK.out.2; omega)
              subst hg8
              simp only [List.getElem_map] at q7 q8
              have HKO : Hid (∀ W, Below wa.heap.size wa W → (T[kp]'HKK.out.1).Ok W) := fun W hb => HGK.out.2.2.below ((HDa.out.below hb).bw)
              have HKS : Hid ((T[kp]'HKK.out.1).s = m'.key) := by show _ = _; rw [HGK.out.1]; exact HTI.out.2.2.1.symm
              rw [HGK.out.2.1, ← HTI.out.2.2.2, ← HLV.out] at q8
              have HYA := hide (YO9.out.below ba)
              have HBE : Hid (∀ W, Below wa.heap.size wa W → Calls Try.prog 23 #[(⟨ylv, ⟨yha, yhc, yhs⟩, yri, ⟨yka, ykc, yK⟩, ⟨yva, yvc, yV⟩, ⟨yca, ycc, yC⟩⟩ : Nd).v, (T[kp]'HKK.out.1).v] W fun e w' => e = .returned (.bool false) ∧ Below W.heap.size W w') := fun W hb => by
                have := rbeyond_any (⟨ylv, ⟨yha, yhc, yhs⟩, yri, ⟨yka, ykc, yK⟩, ⟨yva, yvc, yV⟩, ⟨yca, ycc, yC⟩⟩ : Nd) (T[kp]'HKK.out.1) W (HYA.out.ok.below hb) (HKO.out W hb)
                rw [show (⟨ylv, ⟨yha, yhc, yhs⟩, yri, ⟨yka, ykc, yK⟩, ⟨yva, yvc, yV⟩, ⟨yca, ycc, yC⟩⟩ : Nd).hi.s = m'.nd.hi from congrArg NP.hi HNP.out, HKS.out, HBY.out] at this
                exact this
              have HLV2 : Hid (ylv = m'.nd.lv) := congrArg NP.lv HNP.out
              rw [← HLV2.out] at q8
              generalize T[kp]'HKK.out.1 = tk at *
              obtain ⟨ka', kc', ks'⟩ := tk
              simp only [Nd.v, Tx.v, TL.v, IL.v, yL.out.1, yL.out.2.1, yL.out.2.2.1, yL.out.2.2.2] at HBE
              simp only [Tx.v] at q7
              generalize ks'.length = kl' at *
              have hl1 := lt_of_block GA.out
              have hl2 := World.block_lt_of_cell? wa _ q7
              have hl3 := World.block_lt_of_cell? wa _ q8
              clear ga ba SN y0 y1 y2 y3 y4 y5 m0 m1 m2 n0 n1 n2
              go_wp2_with fail
              go_region_held3 (fun W' => W'.cell? ⟨w4.heap.size, 0, none⟩ = some (.int .i64 ylv) ∧ W'.cell? ⟨w4.heap.size, 1, none⟩ = some (.slice yha ylh yhc) ∧ W'.cell? ⟨w4.heap.size, 2, none⟩ = some (.int .i64 yri) ∧ W'.cell? ⟨w4.heap.size, 3, none⟩ = some (.slice yka ylk ykc) ∧ W'.cell? ⟨w4.heap.size, 4, none⟩ = some (.slice yva ylw yvc) ∧ W'.cell? ⟨w4.heap.size, 5, none⟩ = some (.slice yca ylc ycc) ∧ W'.cell? ⟨g7, kp, none⟩ = some (.slice ka' kl' kc')) (go_keep) (first
                | (go_at_call 23; refine (HBE.out _ (below_drew (Below.refl _ _))).mono ?_; rintro e wc ⟨rfl, bc⟩; have HBC : Hid (Below wa.heap.size wa wc) := (below_drew (Below.refl _ _)).trans bc; obtain ⟨r0, r1, r2, r3, r4, r5⟩ := Six.of ((bc.block _ hl1).trans GA.out); have q7c := (bc.cell (p := ⟨g7, kp, none⟩) hl2).trans q7; have q8c := (bc.cell (p := ⟨g8, kp, none⟩) hl3).trans q8; clear bc)
                | fail)
              have jev : (nw : Int) % 2 = 0 := by have := HEV.out; omega
              have HDc := hide (HDa.out.below HBC.out)
              have HNc : ∀ x, Hid (DI w (i + 1) n (wc.drewN x) P AX AY (.slice (some ⟨g6, 0, none⟩) n c6) (.slice (some ⟨g7, 0, none⟩) n c7) (.slice (some ⟨g8, 0, none⟩) n c8)) := fun x => HFIN.out _ ⟨K3, lab3, HDc.out.below (below_drewN (Below.refl _ _) x)⟩
              have HNC := hide HNc
              clear HNc s0 s1 s2 s3 s4 s5 q7 q8 r1 r2 r3 r4 r5 q7c HBE HF5
              go_wp2_with fail
              go_quiet (fail)
              go_wp2_with fail
              have HN := HNC.out nq
              go_roundw
              case rel => exact ⟨i + 1, n, some ⟨g6, 0, none⟩, some ⟨g7, 0, none⟩, some ⟨g8, 0, none⟩, c6, c7, c8, by omega, rfl, rfl, rfl, by go_num, HN⟩
              case measure => simp [intOf]; omega

    · have j1 : ¬ (i : Int) < (lS : Int) := by omega
      have BF : Hid (Below w.heap.size w wr) := by obtain ⟨_, _, _, _, _, _, hD, _⟩ := HI.out; exact hD.bw
      go_wp2_with fail
      go_ret
      exact ⟨rfl, BF.out⟩
end Go.Proofs.Ytpfmfobnanhcdaa
