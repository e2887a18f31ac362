/- DescentAlone: the walk. -/
import Derived.Test.YtibifkindpgkgaaGreatT51
import Derived.Test.YtibifkindpgkgaaGreatG37
import Derived.Test.YtibifkindpgkgaaGreatG30
import Derived.Test.YtibifkindpgkgaaGreatG17
import Derived.Test.YtibifkindpgkgaaGreatG24
import Derived.Test.YtibifkindpgkgaaGreatT48
import Derived.Deep.DeepCutAuto
namespace Go.Proofs.YtibifkindpgkgaaGreat
open Go.RowKit
set_option maxRecDepth 100000

/-- What Levels gave, wherever its report lies. -/
def RlT (Y : World) (N : Nat) (F : Nat → Prop) (s : AS) (ck : NP → Int) (R : (Int × Int) ⊕ List Chn) (oa : Option Addr) (n oc : Nat) (b : Bool) : Prop :=
  b = false ∨ (b = true ∧ ∃ ls Q M ma mc, R = .inr ls ∧ n = Q.length ∧ RLS Y N F ls Q oa oc M ma mc ∧ Lvp s ck ls (-1))
theorem rlp_form {W w9 : World} {F : Nat → Prop} {s : AS} {ck : NP → Int} {R : (Int × Int) ⊕ List Chn} {e : Ending} (h : RlP W F s ck R e w9) :
    ∃ oa n oc b i er, e = .returned (.tuple #[.slice oa n oc, .agg #[.bool b, .int .i64 i, .int .i64 er, .int .i64 0, .int .i64 0, .int .i64 0]]) ∧ Below W.heap.size W w9 ∧ RlT w9 W.heap.size F s ck R oa n oc b := by
  obtain ⟨hb, ⟨id, er, hR, rfl⟩ | ⟨ls, Q, oa, oc, M, ma, mc, hR, rfl, hr, hl⟩⟩ := h
  · exact ⟨none, 0, 0, false, id, er, rfl, hb, .inl rfl⟩
  · exact ⟨oa, _, oc, true, 0, 0, rfl, hb, .inr ⟨rfl, ls, Q, M, ma, mc, hR, rfl, hr, hl⟩⟩
theorem RlT.upd {S : Nat → Prop} {Y Y' : World} {N : Nat} {F : Nat → Prop} {s : AS} {ck : NP → Int} {R : (Int × Int) ⊕ List Chn} {oa : Option Addr} {n oc : Nat} {b : Bool} (h : RlT Y N F s ck R oa n oc b) (hu : Upd S Y Y') (hs : ∀ k cs T, S k → Y.heap[k]? = some (.cells cs T (0, 0)) → T ≠ 3 ∧ T ≠ 39 ∧ T ≠ 74) (hF : ∀ k, F k → ¬ S k) : RlT Y' N F s ck R oa n oc b := by
  rcases h with h | ⟨hb, ls, Q, M, ma, mc, h1, h2, h3, h4⟩
  · exact .inl h
  · exact .inr ⟨hb, ls, Q, M, ma, mc, h1, h2, h3.upd hu hs hF, h4⟩
/-- Levels, then its report is laid: into a block that was there, or into a new one. -/
theorem rlt_six {w9 : World} {B N : Nat} {F : Nat → Prop} {s : AS} {ck : NP → Int} {R : (Int × Int) ⊕ List Chn} {oa : Option Addr} {n oc : Nat} {b : Bool} {x0 x1 x2 x3 x4 x5 : Value} (h : RlT w9 N F s ck R oa n oc b) (hB : w9.heap[B]? = some (.cells #[x0, x1, x2, x3, x4, x5] 45 (0, 0))) (hF : ∀ k, F k → k ≠ B) (v0 v1 v2 v3 v4 v5 : Value) : RlT (six6 w9 B v0 v1 v2 v3 v4 v5) N F s ck R oa n oc b :=
  h.upd (S := fun k => k = B) (six_upd _ _ _ _ _ _ _ _ _ rfl) (fun k cs T hk hh => by subst hk; rw [hB] at hh; cases hh; exact ⟨by decide, by decide, by decide⟩) (fun k hk e => hF k hk e)
theorem rlt_new {w9 : World} {N : Nat} {F : Nat → Prop} {s : AS} {ck : NP → Int} {R : (Int × Int) ⊕ List Chn} {oa : Option Addr} {n oc : Nat} {b : Bool} (h : RlT w9 N F s ck R oa n oc b) (ob : Obj) : RlT (w9.alloc ob) N F s ck R oa n oc b :=
  h.upd (S := Noth) (Upd.of_below ((Below.refl _ _).alloc (Nat.le_refl _) _) _) (fun _ _ _ e => e.elim) (fun _ _ e => e)
theorem ids_nodup {outs : List Chn} {c : Chn} (h : (idsOf outs).Nodup) (hc : c ∈ outs) : (c.map (·.1)).Nodup := by
  induction outs with
  | nil => cases hc
  | cons d r ih =>
    have e : idsOf (d :: r) = d.map (·.1) ++ idsOf r := by simp [idsOf]
    rw [e] at h
    rcases List.mem_cons.1 hc with hc | hc
    · rw [hc]; exact (List.nodup_append.1 h).1
    · exact ih (List.nodup_append.1 h).2.1 hc
theorem fst_uniq : ∀ {c : Chn}, (c.map (·.1)).Nodup → ∀ {x y : Int × List Int}, x ∈ c → y ∈ c → x.1 = y.1 → x = y
  | [], _, _, _, hx, _, _ => by cases hx
  | z :: c, h, x, y, hx, hy, e => by
    rw [List.map_cons, List.nodup_cons] at h
    rcases List.mem_cons.1 hx with hx | hx
    · rcases List.mem_cons.1 hy with hy | hy
      · rw [hx, hy]
      · exact absurd (List.mem_map.2 ⟨y, hy, by rw [← e, hx]⟩) h.1
    · rcases List.mem_cons.1 hy with hy | hy
      · exact absurd (List.mem_map.2 ⟨x, hx, by rw [e, hy]⟩) h.1
      · exact fst_uniq h.2 hx hy e
theorem slt_cells {W : World} {b : Nat} {x0 x1 x2 x3 x4 x5 x6 : Value} {T : TypeId} (h : W.heap[b]? = some (.cells #[x0, x1, x2, x3, x4, x5, x6] T (0, 0))) : W.cell? ⟨b, 0, none⟩ = some x0 ∧ W.cell? ⟨b, 1, none⟩ = some x1 ∧ W.cell? ⟨b, 2, none⟩ = some x2 ∧ W.cell? ⟨b, 3, none⟩ = some x3 ∧ W.cell? ⟨b, 4, none⟩ = some x4 ∧ W.cell? ⟨b, 5, none⟩ = some x5 ∧ W.cell? ⟨b, 6, none⟩ = some x6 := by
  refine ⟨?_, ?_, ?_, ?_, ?_, ?_, ?_⟩ <;> (rw [cell_of_row _ _ _ _ _ _ h]; rfl)
theorem dt_cells {W : World} {b : Nat} {x0 x1 x2 x3 x4 x5 x6 x7 : Value} {T : TypeId} (h : W.heap[b]? = some (.cells #[x0, x1, x2, x3, x4, x5, x6, x7] T (0, 0))) : W.cell? ⟨b, 1, none⟩ = some x1 ∧ W.cell? ⟨b, 2, none⟩ = some x2 ∧ W.cell? ⟨b, 3, none⟩ = some x3 ∧ W.cell? ⟨b, 4, none⟩ = some x4 ∧ W.cell? ⟨b, 5, none⟩ = some x5 ∧ W.cell? ⟨b, 6, none⟩ = some x6 ∧ W.cell? ⟨b, 7, none⟩ = some x7 := by
  refine ⟨?_, ?_, ?_, ?_, ?_, ?_, ?_⟩ <;> (rw [cell_of_row _ _ _ _ _ _ h]; rfl)

set_option maxRecDepth 100000 in
set_option maxHeartbeats 25600000 in
theorem descentAlone_any (aS : Option Addr) (lS cS : Nat) (nd lf inn fl bk lev : Int) (kx : Tx) (L : List AOp) (w : World)
    (hL : L.length = lS) (hO : Ops (fun k => k < w.heap.size) w aS L) (hlS : lS * 152 ≤ 140737488355328) (hk : kx.Ok w) (hl1 : -9223372036854775808 ≤ lev) (hl2 : lev ≤ 9223372036854775807) :
    Calls Tryz.prog 5 #[.agg #[.slice aS lS cS, .int .i64 nd, .int .i64 lf, .int .i64 inn, .int .i64 fl, .int .i64 bk, kx.v, .int .i64 lev]] w fun e w' => e = .returned (.bool true) ∧ Below w.heap.size w w' := by
  obtain ⟨ka, kc, kz⟩ := kx
  simp only [Tx.v]
  obtain ⟨kl, hkl⟩ : ∃ kl, kz.length = kl := ⟨_, rfl⟩
  rw [hkl]
  have HKL := hide hkl
  obtain ⟨w0, hw0⟩ : ∃ x, x = w.alloc (.cells #[.slice aS lS cS, .int .i64 nd, .int .i64 lf, .int .i64 inn, .int .i64 fl, .int .i64 bk, .slice ka kl kc, .int .i64 lev] 50) := ⟨_, rfl⟩
  have b0 : Below w.heap.size w w0 := by rw [hw0]; exact (Below.refl _ _).alloc (Nat.le_refl _) _
  have G0 : Hid (w0.heap[w.heap.size]? = some (.cells #[.slice aS lS cS, .int .i64 nd, .int .i64 lf, .int .i64 inn, .int .i64 fl, .int .i64 bk, .slice ka kl kc, .int .i64 lev] 50 (0, 0))) := by show _ = _; rw [hw0]; exact heap_alloc_new w _
  have HW0 : Hid (w.alloc (.cells #[.slice aS lS cS, .int .i64 nd, .int .i64 lf, .int .i64 inn, .int .i64 fl, .int .i64 bk, .slice ka kl kc, .int .i64 lev] 50) = w0) := hw0.symm
  have HHD := hide (dhead_any w0)
  have HBG : Hid (∀ W, Calls Tryz.prog 18 #[.int .i64 40] W (BegP W 40)) := fun W => begun_good 40 W (by decide) (by decide)
  have HO := hide hO
  have HLL := hide hL
  have HK := hide hk
  have HLV : Hid (-9223372036854775808 ≤ lev ∧ lev ≤ 9223372036854775807) := ⟨hl1, hl2⟩
  have B0 := hide b0
  have hlS2 : (lS : Int) ≤ 9223372036854775807 := by omega
  clear hO hL hlS hw0 b0 hk hl1 hl2 hkl
  go_enter Tryz.func5, Tryz.ntmps5
  go_upto_region 1 with fail
  rw [HW0.out]
  go_wp2_with fail
  refine HHD.out.mono ?_
  rintro e w1 ⟨rfl, hb1⟩
  have B1 := hide (B0.out.trans (hb1.mono B0.out.size))
  have G1 : Hid (w1.heap[w.heap.size]? = some (.cells #[.slice aS lS cS, .int .i64 nd, .int .i64 lf, .int .i64 inn, .int .i64 fl, .int .i64 bk, .slice ka kl kc, .int .i64 lev] 50 (0, 0))) := (hb1.block _ (lt_of_block G0.out)).trans G0.out
  clear hb1 HHD HW0
  go_wp2_with fail
  refine (HBG.out w1).mono ?_
  rintro e w2 ⟨P, AX, AY, rfl, hA, hb⟩
  obtain ⟨K, hK⟩ : ∃ K : Nat → Prop, K = fun k => k < w1.heap.size ∨ k = P := ⟨_, rfl⟩
  rw [← hK] at hA
  have hw1s : w.heap.size < w1.heap.size := lt_of_block G1.out
  have KW : Hid (∀ k, k < w1.heap.size → K k) := fun k hk => by rw [hK]; exact .inl hk
  have H1 : Hid (AW K w2 P AX AY ((AS.new 40).run (L.take 0)) ((AS.new 40).run (L.take 0)) ∧ Upd (fun k => ¬ K k) w2 w2) := ⟨hA, Upd.refl _ _⟩
  have HBX : Hid (∀ W, Upd (fun k => ¬ K k) w2 W → Below w1.heap.size w1 W) := fun W hU => hb.trans (hU.below hb.size (fun k hk e => e (KW.out k hk)))
  have HBW : Hid (∀ W, Upd (fun k => ¬ K k) w2 W → Below w.heap.size w W) := fun W hU => B1.out.trans ((HBX.out W hU).mono B1.out.size)
  have HOPS : Hid (∀ W, Upd (fun k => ¬ K k) w2 W → Ops K W aS L) := fun W hU => (HO.out.kept (⟨(HBW.out W hU).os, (HBW.out W hU).tape, (HBW.out W hU).output, (HBW.out W hU).size, fun k _ hk => (HBW.out W hU).block k (Decidable.byContradiction fun hc => hk hc)⟩ : Upd (fun k => ¬ k < w.heap.size) w W)).mono (fun k hk => KW.out k (by omega))
  have HBK : Hid (∀ W, Upd (fun k => ¬ K k) w2 W → W.heap[w.heap.size]? = some (.cells #[.slice aS lS cS, .int .i64 nd, .int .i64 lf, .int .i64 inn, .int .i64 fl, .int .i64 bk, .slice ka kl kc, .int .i64 lev] 50 (0, 0))) := fun W hU => ((HBX.out W hU).block _ hw1s).trans G1.out
  have HC0 : Hid (∀ W, Upd (fun k => ¬ K k) w2 W → W.cell? ⟨w.heap.size, 0, none⟩ = some (.slice aS lS cS)) := fun W hU => by rw [cell_of_row _ _ _ _ _ _ (HBK.out W hU)]; rfl
  clear hA hb hK HBG HO hw1s
  go_wp2_with fail
  go_loopw [6] (fun q6 wr => ∃ i : Nat, i ≤ lS ∧ q6 = .int .i64 (i : Int) ∧ Hid (AW K wr P AX AY ((AS.new 40).run (L.take i)) ((AS.new 40).run (L.take i)) ∧ Upd (fun k => ¬ K k) w2 wr)) (fun q6 _ => lS - (intOf q6).toNat)
  case atStart => exact ⟨0, Nat.zero_le _, rfl, H1⟩
  case round =>
    clear H1
    obtain ⟨i, hi, rfl, HI⟩ := hrel
    rename World => wr
    have c0 := HC0.out wr HI.out.2
    by_cases hlt : i < lS
    · have j1 : (i : Int) < (lS : Int) := by omega
      have hiL : i < L.length := by rw [HLL.out]; exact hlt
      have hops := HOPS.out wr HI.out.2
      obtain ⟨ob, oo, hoa, hok, hoc⟩ := hops.c i hiL
      subst hoa
      have oko := hops.ok L[i] (List.getElem_mem hiL)
      have RW := hide (raw_any HI.out.1 L[i] oko)
      have hnx := AS.run_take (AS.new 40) L i hiL
      rw [← hnx] at RW
      generalize L[i] = op at *
      obtain ⟨kd, ra, rb, rw', ch', ⟨lv, ⟨ha, hc, hs⟩, ri, ⟨ka', kc', KL⟩, ⟨va, vc, V⟩, ⟨ca, cc, C⟩⟩⟩ := op
      simp only [AOp.v, Tx.v, TL.v, IL.v] at RW hoc
      have e0 : wr.cell? ⟨ob, oo + i * 11, none⟩ = some (.int .i64 kd) := hoc 0 _ rfl
      have e1 : wr.cell? ⟨ob, oo + i * 11 + 1, none⟩ = some (.int .i64 ra) := hoc 1 _ rfl
      have e2 : wr.cell? ⟨ob, oo + i * 11 + 2, none⟩ = some (.int .i64 rb) := hoc 2 _ rfl
      have e3 : wr.cell? ⟨ob, oo + i * 11 + 3, none⟩ = some (.int .u64 (rw' : Nat)) := hoc 3 _ rfl
      have e4 : wr.cell? ⟨ob, oo + i * 11 + 4, none⟩ = some (.bool ch') := hoc 4 _ rfl
      have e5 : wr.cell? ⟨ob, oo + i * 11 + 5, none⟩ = some (.int .i64 lv) := hoc 5 _ rfl
      have e6 : wr.cell? ⟨ob, oo + i * 11 + 6, none⟩ = some (.slice ha hs.length hc) := hoc 6 _ rfl
      have e7 : wr.cell? ⟨ob, oo + i * 11 + 7, none⟩ = some (.int .i64 ri) := hoc 7 _ rfl
      have e8 : wr.cell? ⟨ob, oo + i * 11 + 8, none⟩ = some (.slice ka' KL.length kc') := hoc 8 _ rfl
      have e9 : wr.cell? ⟨ob, oo + i * 11 + 9, none⟩ = some (.slice va V.length vc) := hoc 9 _ rfl
      have e10 : wr.cell? ⟨ob, oo + i * 11 + 10, none⟩ = some (.slice ca C.length cc) := hoc 10 _ rfl
      generalize hs.length = lh at *
      generalize KL.length = lk at *
      generalize V.length = lw at *
      generalize C.length = lc at *
      clear hops hok hoc oko hnx
      go_wp2_with fail
      refine RW.out.mono ?_
      rintro e w3 ⟨rfl, hA, hU⟩
      have HI3 : Hid (AW K w3 P AX AY ((AS.new 40).run (L.take (i + 1))) ((AS.new 40).run (L.take (i + 1))) ∧ Upd (fun k => ¬ K k) w2 w3) := ⟨hA, HI.out.2.trans hU⟩
      clear hA hU e0 e1 e2 e3 e4 e5 e6 e7 e8 e9 e10 RW c0
      go_wp2_with fail
      go_roundw
      case rel => exact ⟨i + 1, by omega, by go_num, HI3⟩
      case measure => simp [intOf]; omega
    · have j1 : ¬ (i : Int) < (lS : Int) := by omega
      have HT : L.take i = L := List.take_of_length_le (by rw [HLL.out]; omega)
      obtain ⟨s, hs⟩ : ∃ s, s = (AS.new 40).run L := ⟨_, rfl⟩
      have hA := HI.out.1
      rw [HT, ← hs] at hA
      have HA := hide hA
      have BA := hide (HBW.out wr HI.out.2)
      have GA := hide (HBK.out wr HI.out.2)
      have HKA := hide (HK.out.below BA.out)
      have hlen := hA.len.1
      have hlP : P < wr.heap.size := hA.klt P hA.kp
      have hlT : w.heap.size < wr.heap.size := lt_of_block GA.out
      clear HI HT hs hA HBX HBW HOPS HBK HC0 HLL HK KW B0 B1 G0 G1
      -- BEHIND
      have HF : Hid (∀ Y, Below wr.heap.size wr Y → AW K Y P AX AY s s ∧ (⟨ka, kc, kz⟩ : Tx).Ok Y ∧ Below w.heap.size w Y ∧ wr.heap.size ≤ Y.heap.size ∧ Y.heap[w.heap.size]? = some (.cells #[.slice aS lS cS, .int .i64 nd, .int .i64 lf, .int .i64 inn, .int .i64 fl, .int .i64 bk, .slice ka kl kc, .int .i64 lev] 50 (0, 0)) ∧ Y.cell? ⟨P, 0, none⟩ = some (.pointer (some ⟨AX, 0, none⟩)) ∧ Y.cell? ⟨P, 1, none⟩ = some (.pointer (some ⟨AY, 0, none⟩))) := fun Y hb => ⟨HA.out.below hb, HKA.out.below hb, BA.out.trans (hb.mono BA.out.size), hb.size, (hb.block _ hlT).trans GA.out, (HA.out.below hb).cells.1, (HA.out.below hb).cells.2⟩
      obtain ⟨F, hRX⟩ := HA.out.rx
      have HRX := hide hRX
      have HFL : Hid (∀ k, F k → k < wr.heap.size) := hRX.lt
      clear hRX
      have HLVS : Hid (∀ Y, Below wr.heap.size wr Y → Calls Tryz.prog 20 #[.pointer (some ⟨AY, 0, none⟩), .agg #[.int .i64 nd, .int .i64 lf, .int .i64 inn, .int .i64 fl, .int .i64 bk]] Y (RlP Y F s (fun p => nchkE p nd lf inn fl bk) (s.look nd lf inn fl bk))) := fun Y hb => rlevels_any (HRX.out.belowN hb) nd lf inn fl bk
      go_upto_region 9 with fail
      obtain ⟨_, _, _, _, g0, p0, p1⟩ := HF.out wr (Below.refl _ _)
      obtain ⟨t1, t2, t3, t4, t5, t6, t7⟩ := dt_cells g0
      have n1 : ¬ P = wr.heap.size := by omega
      have n2 : ¬ wr.heap.size = P := by omega
      have n3 : ¬ w.heap.size = wr.heap.size := by omega
      have n4 : ¬ wr.heap.size = w.heap.size := by omega
      clear g0 c0
      go_cut [7, 8] (fun s7 s8 wx => ∃ oa n oc B, s7 = .slice oa n oc ∧ s8 = .pointer (some ⟨B, 0, none⟩) ∧ Hid (∃ b i2 er2 N, wx.heap[B]? = some (.cells #[.bool b, .int .i64 i2, .int .i64 er2, .int .i64 0, .int .i64 0, .int .i64 0] 45 (0, 0)) ∧ RlT wx N F s (fun p => nchkE p nd lf inn fl bk) (s.look nd lf inn fl bk) oa n oc b ∧ Below wr.heap.size wr wx ∧ wr.heap.size ≤ B))
      case first =>
        go_wp2_with fail
        go_region_held3 (fun Y => Y.cell? ⟨P, 1, none⟩ = some (.pointer (some ⟨AY, 0, none⟩)) ∧ (Y.cell? ⟨w.heap.size, 1, none⟩ = some (.int .i64 nd) ∧ Y.cell? ⟨w.heap.size, 2, none⟩ = some (.int .i64 lf) ∧ Y.cell? ⟨w.heap.size, 3, none⟩ = some (.int .i64 inn)) ∧ Y.cell? ⟨w.heap.size, 4, none⟩ = some (.int .i64 fl) ∧ Y.cell? ⟨w.heap.size, 5, none⟩ = some (.int .i64 bk)) (go_keep) (first
          | (go_at_call 20; refine (HLVS.out (wr.alloc (.cells #[.bool false, .int .i64 0, .int .i64 0, .int .i64 0, .int .i64 0, .int .i64 0] 45)).drew (below_drew ((Below.refl _ _).alloc (Nat.le_refl _) _))).mono ?_; intro e w9 hq9; obtain ⟨oa, n, oc, b, i9, er, rfl, hb9, hrl⟩ := rlp_form hq9; have bb : Below wr.heap.size wr w9 := (below_drew ((Below.refl wr.heap.size wr).alloc (Nat.le_refl _) (.cells #[.bool false, .int .i64 0, .int .i64 0, .int .i64 0, .int .i64 0, .int .i64 0] 45))).trans (hb9.mono (by simp [World.drew])); have G9 : w9.heap[wr.heap.size]? = some (.cells #[.bool false, .int .i64 0, .int .i64 0, .int .i64 0, .int .i64 0, .int .i64 0] 45 (0, 0)) := (hb9.block _ (by simp [World.drew])).trans (heap_alloc_new wr _); obtain ⟨y0, y1, y2, y3, y4, y5⟩ := Six.of G9; have FY := (fun j => frozen_of G9 j); have k0 : w9.cell? ⟨P, 1, none⟩ = _ := (bb.cell (p := ⟨P, 1, none⟩) hlP).trans p1; have k1 : w9.cell? ⟨w.heap.size, 1, none⟩ = _ := (bb.cell (p := ⟨w.heap.size, 1, none⟩) hlT).trans t1; have k2 : w9.cell? ⟨w.heap.size, 2, none⟩ = _ := (bb.cell (p := ⟨w.heap.size, 2, none⟩) hlT).trans t2; have k3 : w9.cell? ⟨w.heap.size, 3, none⟩ = _ := (bb.cell (p := ⟨w.heap.size, 3, none⟩) hlT).trans t3; have k4 : w9.cell? ⟨w.heap.size, 4, none⟩ = _ := (bb.cell (p := ⟨w.heap.size, 4, none⟩) hlT).trans t4; have k5 : w9.cell? ⟨w.heap.size, 5, none⟩ = _ := (bb.cell (p := ⟨w.heap.size, 5, none⟩) hlT).trans t5; have HC9 : Hid (∃ b' i2 er2 N, (six6 w9 wr.heap.size (.bool b) (.int .i64 i9) (.int .i64 er) (.int .i64 0) (.int .i64 0) (.int .i64 0)).heap[wr.heap.size]? = some (.cells #[.bool b', .int .i64 i2, .int .i64 er2, .int .i64 0, .int .i64 0, .int .i64 0] 45 (0, 0)) ∧ RlT (six6 w9 wr.heap.size (.bool b) (.int .i64 i9) (.int .i64 er) (.int .i64 0) (.int .i64 0) (.int .i64 0)) N F s (fun p => nchkE p nd lf inn fl bk) (s.look nd lf inn fl bk) oa n oc b' ∧ Below wr.heap.size wr (six6 w9 wr.heap.size (.bool b) (.int .i64 i9) (.int .i64 er) (.int .i64 0) (.int .i64 0) (.int .i64 0)) ∧ wr.heap.size ≤ wr.heap.size) := ⟨b, i9, er, _, six_block G9 _ _ _ _ _ _, rlt_six hrl G9 (fun k hk e => by have := HFL.out k hk; omega) _ _ _ _ _ _, bb.trans ((six_upd (fun k => k = wr.heap.size) _ _ _ _ _ _ _ _ rfl : Upd (fun k => k = wr.heap.size) w9 (six6 w9 wr.heap.size (.bool b) (.int .i64 i9) (.int .i64 er) (.int .i64 0) (.int .i64 0) (.int .i64 0))).below bb.size (fun k hk e => by have e' : k = wr.heap.size := e; omega)), Nat.le_refl _⟩; clear hb9 hrl bb G9 hq9)
          | (go_at_call 20; refine (HLVS.out wr.drew (below_drew (Below.refl _ _))).mono ?_; intro e w9 hq9; obtain ⟨oa, n, oc, b, i9, er, rfl, hb9, hrl⟩ := rlp_form hq9; have bb : Below wr.heap.size wr w9 := (below_drew (Below.refl wr.heap.size wr)).trans hb9; have m0 := bb.size; have m1 : ¬ P = w9.heap.size := (by omega); have m2 : ¬ w9.heap.size = P := (by omega); have m3 : ¬ w.heap.size = w9.heap.size := (by omega); have m4 : ¬ w9.heap.size = w.heap.size := (by omega); have k0 : w9.cell? ⟨P, 1, none⟩ = _ := (bb.cell (p := ⟨P, 1, none⟩) hlP).trans p1; have k1 : w9.cell? ⟨w.heap.size, 1, none⟩ = _ := (bb.cell (p := ⟨w.heap.size, 1, none⟩) hlT).trans t1; have k2 : w9.cell? ⟨w.heap.size, 2, none⟩ = _ := (bb.cell (p := ⟨w.heap.size, 2, none⟩) hlT).trans t2; have k3 : w9.cell? ⟨w.heap.size, 3, none⟩ = _ := (bb.cell (p := ⟨w.heap.size, 3, none⟩) hlT).trans t3; have k4 : w9.cell? ⟨w.heap.size, 4, none⟩ = _ := (bb.cell (p := ⟨w.heap.size, 4, none⟩) hlT).trans t4; have k5 : w9.cell? ⟨w.heap.size, 5, none⟩ = _ := (bb.cell (p := ⟨w.heap.size, 5, none⟩) hlT).trans t5; have HC9 : Hid (∃ b' i2 er2 N, (w9.alloc (.cells #[.bool b, .int .i64 i9, .int .i64 er, .int .i64 0, .int .i64 0, .int .i64 0] 45)).heap[w9.heap.size]? = some (.cells #[.bool b', .int .i64 i2, .int .i64 er2, .int .i64 0, .int .i64 0, .int .i64 0] 45 (0, 0)) ∧ RlT (w9.alloc (.cells #[.bool b, .int .i64 i9, .int .i64 er, .int .i64 0, .int .i64 0, .int .i64 0] 45)) N F s (fun p => nchkE p nd lf inn fl bk) (s.look nd lf inn fl bk) oa n oc b' ∧ Below wr.heap.size wr (w9.alloc (.cells #[.bool b, .int .i64 i9, .int .i64 er, .int .i64 0, .int .i64 0, .int .i64 0] 45)) ∧ wr.heap.size ≤ w9.heap.size) := ⟨b, i9, er, _, heap_alloc_new w9 _, rlt_new hrl _, bb.alloc bb.size _, bb.size⟩; clear hb9 hrl bb hq9)
          | fail)
        all_goals
          try go_wp2_with fail
          go_meet
          exact ⟨_, _, _, _, rfl, rfl, HC9⟩
      case rest =>
      rename World => wb
      obtain ⟨oa, n, oc, B, rfl, rfl, HX6⟩ := hcut
      clear p0 p1 t1 t2 t3 t4 t5 t6 t7 n1 n2 n3 n4 HLVS
      obtain ⟨b, i2, er2, N, g3, hrl3, b23, hB6⟩ := HX6.out
      obtain ⟨y0, y1, y2, y3, y4, y5⟩ := Six.of g3
      have BB := hide b23
      have HRL := hide hrl3
      clear HX6 hrl3 b23 g3
      cases b with
      | false =>
        have HFIN : Hid (Below w.heap.size w wb) := (HF.out wb BB.out).2.2.1
        go_wp2_with fail
        go_ret
        exact ⟨rfl, HFIN.out⟩
      | true =>
      obtain ⟨ls, Q, M, ma, mc, hR, hn, hrls, hlvp⟩ : ∃ ls Q M ma mc, s.look nd lf inn fl bk = .inr ls ∧ n = Q.length ∧ RLS wb N F ls Q oa oc M ma mc ∧ Lvp s (fun p => nchkE p nd lf inn fl bk) ls (-1) := by
        rcases HRL.out with h | h
        · cases h
        · exact h.2
      have HSND := hide (look_snd hR)
      have HRLS := hide hrls
      have HNQ := hide hn
      have HNL : Hid (n = ls.length) := hn.trans hrls.len
      have hn6 : (n : Int) + 1 ≤ 70000 := by
        have h1 := ids_ge hlvp.ne
        have h2 := hlvp.met.len
        have h3 := HNL.out
        omega
      have HPK := hide (pick12_any lev (n + 1) wb (by omega) (by omega) HLV.out.1 HLV.out.2)
      have hvl := pickN_lt lev (n + 1) (by omega)
      rw [show ((n + 1 : Nat) : Int) = (n : Int) + 1 by omega] at HPK
      obtain ⟨v, hv⟩ : ∃ v, pickN lev (n + 1) = v := ⟨_, rfl⟩
      rw [hv] at HPK hvl
      clear hv HLV HRL hR hn hrls hlvp
      obtain ⟨_, _, _, _, g0, p0, p1⟩ := HF.out wb BB.out
      obtain ⟨t1, t2, t3, t4, t5, t6, t7⟩ := dt_cells g0
      have hbs := BB.out.size
      have hlPb : P < wb.heap.size := by omega
      have hlTb : w.heap.size < wb.heap.size := by omega
      obtain ⟨u, hu⟩ : ∃ u, s.sl.length = u := ⟨_, rfl⟩
      have HUS := hide (aw_usedY (HF.out wb BB.out).1)
      rw [hu] at HUS hlen
      have HU := hide hu
      have hu4 : 1 + 4 * (u : Int) ≤ 300000 := by omega
      clear g0 hu
      -- PICKED
      go_upto_region 12 with fail
      go_wp2_with fail
      refine keep HPK.out ?_
      go_wp2_with fail
      refine keep HUS.out ?_
      clear HPK HUS t1 t2 t3 t4 t5 y0 y1 y2 y3 y4 y5
      go_upto_region 14 with fail
      have HNW : Hid (∀ Y, Below wb.heap.size wb Y → Calls Tryz.prog 23 #[.pointer (some ⟨AX, 0, none⟩), .slice ka kl kc, .int .i64 (v : Int)] Y (DNewP Y AX kz v)) := fun Y hb => by
        have := dnew_any (A := AX) ⟨ka, kc, kz⟩ (v : Int) (HF.out Y (BB.out.trans (hb.mono BB.out.size))).2.1
        simp only [Tx.v, HKL.out] at this
        exact this
      go_wp2_with fail
      -- NEW
      go_region_held3 (fun Y => Y.cell? ⟨P, 0, none⟩ = some (.pointer (some ⟨AX, 0, none⟩)) ∧ Y.cell? ⟨w.heap.size, 6, none⟩ = some (.slice ka kl kc)) (go_keep) (first
        | (go_at_call 23; refine (HNW.out wb.drew (below_drew (Below.refl _ _))).mono ?_; rintro e w4 ⟨PM', km, nm, Dm, rfl, hpm, hP4, hD4, hb4⟩; have b4 : Below wb.heap.size wb w4 := (below_drew (Below.refl wb.heap.size wb)).trans hb4; have k0 : w4.cell? ⟨P, 0, none⟩ = _ := (b4.cell (p := ⟨P, 0, none⟩) hlPb).trans p0; have k6 : w4.cell? ⟨w.heap.size, 6, none⟩ = _ := (b4.cell (p := ⟨w.heap.size, 6, none⟩) hlTb).trans t6; have HPM : Hid (PM w4 PM' AX km nm Dm (MS.new kz v) ∧ wb.heap.size ≤ PM' ∧ Below wb.heap.size wb w4) := ⟨hpm, hP4, b4⟩; clear hpm hP4 hD4 hb4 b4)
        | fail)

      -- LOOP
      have HLP0 : Hid ((∃ k n D, PM w4 PM' AX k n D ((MS.new kz v).run s 0)) ∧ Below wr.heap.size wr w4 ∧ RLS w4 N F ls Q oa oc M ma mc) := ⟨⟨km, nm, Dm, HPM.out.1⟩, BB.out.trans (HPM.out.2.2.mono BB.out.size), HRLS.out.below HPM.out.2.2⟩
      have hPM : wr.heap.size ≤ PM' := by have := HPM.out.2.1; omega
      have HMF : Hid (∀ k, F k → k ≠ PM') := fun k hk e => by have := HFL.out k hk; omega
      have HAL := hide (alone HSND.out kz v (by have := HNL.out; omega))
      rw [HU.out] at HAL
      clear HPM HRLS HNW k0 k6 p0 p1 t6 t7 hlPb hlTb hbs BB HFL
      go_wp2_with fail
      go_loopw [12, 13] (fun q12 q13 wt => ∃ (x : Nat) (b : Bool), q12 = .int .i64 (x : Int) ∧ q13 = .bool b ∧ Hid (b = decide (5 ≤ ((MS.new kz v).run s x).nx) ∧ x ≤ 1 + 4 * u ∧ (∃ k n D, PM wt PM' AX k n D ((MS.new kz v).run s x)) ∧ Below wr.heap.size wr wt ∧ RLS wt N F ls Q oa oc M ma mc)) (fun q12 _ _ => 2 + 4 * u - (intOf q12).toNat)
      case atStart => exact ⟨0, false, rfl, rfl, ⟨rfl, by omega, HLP0.out⟩⟩
      case round =>
        clear HLP0
        obtain ⟨x, b, rfl, rfl, HI⟩ := hrel
        rename World => wt
        cases b with
        | false =>
          have hxl : x < 1 + 4 * u := by
            refine Decidable.byContradiction fun hc => ?_
            have h1 := HI.out.1
            have h2 := HI.out.2.1
            have h3 := HAL.out.2.1
            rw [← show x = 1 + 4 * u by omega] at h3
            rw [decide_eq_true h3] at h1
            cases h1
          have jx : ¬ (x : Int) > 1 + 4 * (u : Int) := by omega
          have HST : Hid (Calls Tryz.prog 24 #[.pointer (some ⟨PM', 0, none⟩)] wt fun e w' => e = .returned (.bool (decide (5 ≤ ((MS.new kz v).run s (x + 1)).nx))) ∧ (∃ k n D, PM w' PM' AX k n D ((MS.new kz v).run s (x + 1))) ∧ Upd (fun k => k = PM') wt w') := by
            obtain ⟨k, n', D, hm⟩ := HI.out.2.2.1
            obtain ⟨F', hp⟩ := (HF.out wt HI.out.2.2.2.1).1.px
            have hc := MS.run_cnt (MS.new kz v) s x
            have e1 : (MS.new kz v).an = 0 := rfl
            have e2 : (MS.new kz v).mo = 0 := rfl
            refine (step_any hm hp (by omega) (by omega)).mono ?_
            rintro e w' ⟨h1, n2, D2, h2, _, h3⟩
            exact ⟨h1, ⟨k, n2, D2, h2⟩, h3⟩
          obtain ⟨b', hb'⟩ : ∃ b', decide (5 ≤ ((MS.new kz v).run s (x + 1)).nx) = b' := ⟨_, rfl⟩
          rw [hb'] at HST
          have HB' := hide hb'
          clear hb'
          go_wp2_with fail
          refine HST.out.mono ?_
          rintro e w5 ⟨rfl, hm5, hu5⟩
          have HI5 : Hid (b' = decide (5 ≤ ((MS.new kz v).run s (x + 1)).nx) ∧ x + 1 ≤ 1 + 4 * u ∧ (∃ k n D, PM w5 PM' AX k n D ((MS.new kz v).run s (x + 1))) ∧ Below wr.heap.size wr w5 ∧ RLS w5 N F ls Q oa oc M ma mc) := by
            refine ⟨HB'.out.symm, by omega, hm5, HI.out.2.2.2.1.trans (hu5.below HI.out.2.2.2.1.size (fun k hk e => by omega)), HI.out.2.2.2.2.upd hu5 (fun k cs T hk hh => ?_) (fun k hk e => HMF.out k hk e)⟩
            obtain ⟨k', n', D', hm⟩ := HI.out.2.2.1
            subst hk
            have := hm.c
            rw [hh] at this
            cases this
            exact ⟨by decide, by decide, by decide⟩
          clear hm5 hu5 HST HB'
          go_wp2_with fail
          go_roundw
          case rel => exact ⟨x + 1, b', by go_num, rfl, HI5⟩
          case measure => simp [intOf]; omega
        | true =>
          -- END
          have h5 : 5 ≤ ((MS.new kz v).run s x).nx := of_decide_eq_true HI.out.1.symm
          have hfx : (MS.new kz v).run s (1 + 4 * u) = (MS.new kz v).run s x := MS.run_end h5 HI.out.2.1
          rw [hfx] at HAL
          have HC := MS.run_cnt (MS.new kz v) s x
          obtain ⟨m, hm⟩ : ∃ m, m = (MS.new kz v).run s x := ⟨_, rfl⟩
          rw [← hm] at HAL h5 HC
          have HBT := hide HI.out.2.2.2.1
          have HRT := hide HI.out.2.2.2.2
          have HPM : Hid (∃ k n D, PM wt PM' AX k n D m) := by rw [hm]; exact HI.out.2.2.1
          have hmo : m.mo < 400000 := by have e2 : (MS.new kz v).mo = 0 := rfl; have := HI.out.2.1; omega
          have hst : m.step s = m := by rw [MS.step, if_neg (by omega), if_pos h5]
          have HST2 : Hid (∀ Y, Below wr.heap.size wr Y → (∃ k n D, PM Y PM' AX k n D m) → Calls Tryz.prog 24 #[.pointer (some ⟨PM', 0, none⟩)] Y fun e w' => e = .returned (.bool true) ∧ (∃ k n D, PM w' PM' AX k n D m) ∧ Upd (fun k => k = PM') Y w') := fun Y hb hh => by
            obtain ⟨k, n', D, hm⟩ := hh
            obtain ⟨F', hp⟩ := (HF.out Y hb).1.px
            refine (step_any hm hp (by rw [HAL.out.1]; decide) (by omega)).mono ?_
            rintro e w' ⟨h1, n2, D2, h2, _, h3⟩
            rw [hst] at h1 h2
            exact ⟨by rw [h1, decide_eq_true h5], ⟨k, n2, D2, h2⟩, h3⟩
          have HAT : Hid (Calls Tryz.prog 25 #[.pointer (some ⟨PM', 0, none⟩)] wt (AtP wt m.id m.wd m.nd)) := by
            obtain ⟨k, n', D, hm⟩ := HPM.out
            exact dat_any hm h5
          have HAG : Hid (∀ Y, (∃ k n D, PM Y PM' AX k n D m) → Calls Tryz.prog 26 #[.pointer (some ⟨PM', 0, none⟩)] Y fun e w' => e = .returned (.int .i64 0) ∧ w' = Y) := fun Y hh => by
            obtain ⟨k, n', D, hm⟩ := hh
            have := again_any hm
            rw [HAL.out.1] at this
            exact this
          obtain ⟨mo, hmo'⟩ : ∃ mo, mo = m.mo := ⟨_, rfl⟩
          have HRG : Hid (∀ Y, (∃ k n D, PM Y PM' AX k n D m) → Calls Tryz.prog 27 #[.pointer (some ⟨PM', 0, none⟩)] Y fun e w' => e = .returned (.int .i64 (mo : Nat)) ∧ w' = Y) := fun Y hh => by
            obtain ⟨k, n', D, hm⟩ := hh
            rw [hmo']
            exact right_anyD hm
          rw [← hmo'] at hmo
          have jmo : ¬ (mo : Int) < 0 := by omega
          have HALx : Hid ((v = ls.length → m.id = 0 ∧ m.wd = 0 ∧ m.nd = NP.zero) ∧ (v < ls.length → ∃ y ∈ ls.getD (ls.length - 1 - v) [], m.id = y.1 ∧ m.wd = s.w y.1 ∧ m.nd = s.n y.1 ∧ beyB (s.n y.1).hi kz = false ∧ 0 ≤ cmpI kz y.2)) := HAL.out.2.2
          obtain ⟨id, hid⟩ : ∃ id, id = m.id := ⟨_, rfl⟩
          obtain ⟨wd, hwd⟩ : ∃ wd, wd = m.wd := ⟨_, rfl⟩
          obtain ⟨ndp, hnd⟩ : ∃ ndp, ndp = m.nd := ⟨_, rfl⟩
          rw [← hid, ← hwd, ← hnd] at HALx HAT
          have HPMM : Hid (∀ Y Y', (∃ k n D, PM Y PM' AX k n D m) → Below Y.heap.size Y Y' → (∃ k n D, PM Y' PM' AX k n D m)) := fun Y Y' hh hb => by
            obtain ⟨k, n', D, hm⟩ := hh
            exact ⟨k, n', D, hm.upd (S := Noth) (Upd.of_below hb _) (fun _ _ e => e)⟩
          have HTYP : Hid (∀ Y, (∃ k n D, PM Y PM' AX k n D m) → ∀ k cs T, k = PM' → Y.heap[k]? = some (.cells cs T (0, 0)) → T ≠ 3 ∧ T ≠ 39 ∧ T ≠ 74) := fun Y hh k cs T hk hc => by
            obtain ⟨k', n', D, hm⟩ := hh
            subst hk
            have := hm.c
            rw [hc] at this
            cases this
            exact ⟨by decide, by decide, by decide⟩
          have hPMl : PM' < wt.heap.size := by
            obtain ⟨k, n', D, hm⟩ := HPM.out
            exact lt_of_block hm.c
          clear HI HAL hfx hm hst h5 hid hwd hnd hmo' HC jmo
          have jmo : ¬ (mo : Int) < 0 := by omega
          clear hmo
          go_wp2_with fail
          refine HAT.out.mono ?_
          rintro e w6 ⟨⟨xlv, ⟨xha, xhc, xhs⟩, xri, ⟨xka, xkc, XK⟩, ⟨xva, xvc, XV⟩, ⟨xca, xcc, XC⟩⟩, rfl, hxp, hxo, hb6⟩
          have HXO := hide (And.intro hxp (And.intro hxo hb6))
          simp only [Nd.v, Tx.v, TL.v, IL.v]
          obtain ⟨xlh, hq1⟩ : ∃ z, xhs.length = z := ⟨_, rfl⟩
          obtain ⟨xlk, hq2⟩ : ∃ z, XK.length = z := ⟨_, rfl⟩
          obtain ⟨xlw, hq3⟩ : ∃ z, XV.length = z := ⟨_, rfl⟩
          obtain ⟨xlc, hq4⟩ : ∃ z, XC.length = z := ⟨_, rfl⟩
          rw [hq1, hq2, hq3, hq4]
          have HQ := hide (And.intro hq1 (And.intro hq2 (And.intro hq3 hq4)))
          obtain ⟨w7, hw7⟩ : ∃ z, z = w6.alloc (.cells #[.int .i64 xlv, .slice xha xlh xhc, .int .i64 xri, .slice xka xlk xkc, .slice xva xlw xvc, .slice xca xlc xcc] 61) := ⟨_, rfl⟩
          have b7 : Below w6.heap.size w6 w7 := by rw [hw7]; exact (Below.refl _ _).alloc (Nat.le_refl _) _
          have G7 : Hid (w7.heap[w6.heap.size]? = some (.cells #[.int .i64 xlv, .slice xha xlh xhc, .int .i64 xri, .slice xka xlk xkc, .slice xva xlw xvc, .slice xca xlc xcc] 61 (0, 0))) := by show _ = _; rw [hw7]; exact heap_alloc_new w6 _
          have HW7 := hide hw7
          have bt7 : Below wt.heap.size wt w7 := hb6.trans (b7.mono hb6.size)
          have BT7 := hide bt7
          have BR7 := hide (HBT.out.trans (bt7.mono HBT.out.size))
          have PM7 := hide (HPMM.out wt w7 HPM.out bt7)
          have RL7 := hide (HRT.out.below bt7)
          have XO7 : Hid ((⟨xlv, ⟨xha, xhc, xhs⟩, xri, ⟨xka, xkc, XK⟩, ⟨xva, xvc, XV⟩, ⟨xca, xcc, XC⟩⟩ : Nd).Own w7 wt.heap.size) := hxo.below b7
          have hb67 := hb6.size
          clear hq1 hq2 hq3 hq4 hw7 b7 bt7 hxp hxo hb6 HAT HPM HBT HRT
          go_upto_region 25 with fail
          rw [← HW7.out]
          go_wp2_with fail
          refine (HST2.out w7 BR7.out PM7.out).mono ?_
          rintro e w8 ⟨rfl, hm8, hu8⟩
          have br8 : Below wr.heap.size wr w8 := BR7.out.trans (hu8.below BR7.out.size (fun k hk e => by omega))
          have BR8 := hide br8
          have HSM := hide (wsameB_any (HF.out w8 br8).1)
          have PM8 := hide hm8
          have RL8 := hide (RL7.out.upd hu8 (HTYP.out w7 PM7.out) (fun k hk e => HMF.out k hk e))
          have hn68 : ¬ w6.heap.size = PM' := by omega
          have G8 : Hid (w8.heap[w6.heap.size]? = some (.cells #[.int .i64 xlv, .slice xha xlh xhc, .int .i64 xri, .slice xka xlk xkc, .slice xva xlw xvc, .slice xca xlc xcc] 61 (0, 0))) := hu8.heap G7.out hn68
          have XO8 : Hid ((⟨xlv, ⟨xha, xhc, xhs⟩, xri, ⟨xka, xkc, XK⟩, ⟨xva, xvc, XV⟩, ⟨xca, xcc, XC⟩⟩ : Nd).Own w8 wt.heap.size) := XO7.out.upd hu8 (fun b h1 _ e => by omega)
          clear br8 hm8 hu8 PM7 RL7 XO7 G7 BT7 BR7 HST2 HW7
          go_wp2_with fail
          refine HSM.out.mono ?_
          rintro e w9 ⟨rfl, hb9⟩
          have BR9 := hide (BR8.out.trans (hb9.mono BR8.out.size))
          have PM9 := hide (HPMM.out w8 w9 PM8.out hb9)
          have RL9 := hide (RL8.out.below hb9)
          have G9 : Hid (w9.heap[w6.heap.size]? = some (.cells #[.int .i64 xlv, .slice xha xlh xhc, .int .i64 xri, .slice xka xlk xkc, .slice xva xlw xvc, .slice xca xlc xcc] 61 (0, 0))) := (hb9.block _ (lt_of_block G8.out)).trans G8.out
          have XO9 : Hid ((⟨xlv, ⟨xha, xhc, xhs⟩, xri, ⟨xka, xkc, XK⟩, ⟨xva, xvc, XV⟩, ⟨xca, xcc, XC⟩⟩ : Nd).Own w9 wt.heap.size) := XO8.out.below hb9
          have HFIN : Hid (∀ Y, Below w9.heap.size w9 Y → Below w.heap.size w Y) := fun Y hb => (HF.out Y (BR9.out.trans (hb.mono BR9.out.size))).2.2.1
          have HAG9 := hide (HAG.out w9 PM9.out)
          have HRG9 := hide (HRG.out w9 PM9.out)
          clear hb9 HSM PM8 RL8 G8 XO8 BR8 HAG HRG HPMM HTYP
          obtain ⟨z0, z1, z2, z3, z4, z5⟩ := Six.of G9.out
          go_wp2_with fail
          refine keep HAG9.out ?_
          go_wp2_with fail
          refine keep HRG9.out ?_
          clear HAG9 HRG9
          by_cases hvn : v = n
          · subst hvn
            obtain ⟨e1, e2, e3⟩ := HALx.out.1 HNL.out
            subst e1 e2
            have e4 : xlv = 0 := by have := HXO.out.1; rw [e3] at this; exact congrArg NP.lv this
            have e5 : xlk = 0 := by
              have h1 := HXO.out.1
              rw [e3] at h1
              have h2 : (⟨xka, xkc, XK⟩ : TL).p = [] := congrArg NP.ks h1
              rw [← HQ.out.2.1, ← TL.p_len ⟨xka, xkc, XK⟩, h2]; rfl
            subst e4 e5
            clear e3 hvl hn6 hu4 hlen hPM hPMl hb67 hn68 hlP hlT
            simp only [show (((0 : Nat)) : Int) = 0 from rfl] at z0 z3 ⊢
            go_wp2_with fail
            go_ret
            exact ⟨rfl, HFIN.out w9 (Below.refl _ _)⟩
          · -- PLACE
            have hvn' : v < n := by omega
            have hvls : v < ls.length := by have := HNL.out; omega
            obtain ⟨y, hy, e1, e2, e3, e4, e5⟩ := HALx.out.2 hvls
            obtain ⟨q, hq⟩ : ∃ q, n = v + 1 + q := ⟨n - 1 - v, by omega⟩
            have hqQ : q < Q.length := by have := HNQ.out; omega
            have hqL : q < ls.length := by have := HNL.out; omega
            have hcq : ls.getD (ls.length - 1 - v) [] = ls[q] := by rw [← HNL.out, show n - 1 - v = q by omega]; simp [hqL]
            rw [hcq] at hy
            obtain ⟨g, ho, c1, c2⟩ := RL9.out.at_ q hqQ
            subst ho
            have hcz : ls[q].length ≤ 65536 := by
              have h1 := ids_le (List.getElem_mem hqL)
              have h2 := HSND.out.met.len
              have h3 := HU.out
              omega
            have hnd := ids_nodup HSND.out.met.nd (List.getElem_mem hqL)
            have hLV := (RL9.out.q q hqQ hqL).lvo hcz
            have hin := HSND.out.in_ _ (List.getElem_mem hqL) y hy
            generalize ls[q] = ch at *
            generalize Q[q] = qq at *
            obtain ⟨⟨ia, ic, is⟩, ⟨ta, tc, tL⟩⟩ := qq
            simp only [IL.v, TL.v] at c1 c2
            obtain ⟨li, hli⟩ : ∃ z, is.length = z := ⟨_, rfl⟩
            obtain ⟨lt, hlt'⟩ : ∃ z, tL.length = z := ⟨_, rfl⟩
            rw [hli] at c1
            rw [hlt'] at c2
            have his : is = ch.map (·.1) := hLV.is
            have hos : (⟨ta, tc, tL⟩ : TL).p = ch.map (·.2) := hLV.os
            have hlc : li = ch.length := by rw [← hli, his, List.length_map]
            have hltc : lt = ch.length := by
              have := congrArg List.length hos
              rw [TL.p_len, List.length_map] at this
              rw [← hlt']; exact this
            obtain ⟨pos, hpos, hpy⟩ := List.getElem_of_mem hy
            have HCH : Hid (is = ch.map (·.1) ∧ (⟨ta, tc, tL⟩ : TL).p = ch.map (·.2) ∧ li = ch.length ∧ lt = ch.length ∧ (ch.map (·.1)).Nodup ∧ y ∈ ch ∧ is.length = li ∧ tL.length = lt) := ⟨his, hos, hlc, hltc, hnd, hy, hli, hlt'⟩
            have HPOS : Hid (∃ h : pos < ch.length, ch[pos] = y) := ⟨hpos, hpy⟩
            have HY : Hid (s.inn y.1 ∧ id = y.1 ∧ wd = s.w y.1 ∧ ndp = s.n y.1 ∧ beyB (s.n y.1).hi kz = false ∧ 0 ≤ cmpI kz y.2) := ⟨hin, e1, e2, e3, e4, e5⟩
            have hpl : pos < li := by rw [hlc]; exact hpos
            have hli6 : (li : Int) ≤ 65536 := by omega
            have hlt6 : lt = li := by omega
            subst hlt6
            have jq : (n : Int) - 1 - (v : Int) = (q : Int) := by omega
            have jq2 : (q : Int) < (n : Int) := by omega
            obtain ⟨w10, hw10⟩ : ∃ z, z = w9.alloc (.cells #[.slice ia lt ic, .slice ta lt tc] 74) := ⟨_, rfl⟩
            have b10 : Below w9.heap.size w9 w10 := by rw [hw10]; exact (Below.refl _ _).alloc (Nat.le_refl _) _
            have G10 : Hid (w10.heap[w9.heap.size]? = some (.cells #[.slice ia lt ic, .slice ta lt tc] 74 (0, 0))) := by show _ = _; rw [hw10]; exact heap_alloc_new w9 _
            have HW10 := hide hw10
            have HL10 := hide (hLV.below b10)
            have B910 := hide b10
            have hvn2 : ¬ (v : Int) = (n : Int) := by omega
            clear hw10 b10 hLV his hos hlc hltc hnd hy hli hlt' hpos hpy hin e1 e2 e3 e4 e5 hcq hvls hcz hqL hqQ HALx hvn RL9
            have hw1 : IntKind.i64.wrap ((n : Int) - 1) = (n : Int) - 1 := by rw [IntKind.wrap_i64]; omega
            have hw2 : IntKind.i64.wrap ((n : Int) - 1 - (v : Int)) = (q : Int) := by rw [IntKind.wrap_i64]; omega
            clear hq hvl hu4 hlen hPM hPMl hb67 hn68 hlP hlT hn6 jq
            go_upto_region 32 with fail
            rw [← HW10.out]
            clear c1 c2 hw1 hw2 jq2 HW10 hvn2 z0 z1 z2 z3 z4 z5
            -- CHAIN
            go_wp2_with fail
            go_loopw [20] (fun q20 wz => ∃ j : Nat, q20 = .int .i64 (j : Int) ∧ Hid (j ≤ pos ∧ wz = w10)) (fun q20 _ => lt - (intOf q20).toNat)
            case atStart => exact ⟨0, rfl, ⟨Nat.zero_le _, rfl⟩⟩
            case round =>
              obtain ⟨j, rfl, HJ⟩ := hrel
              rename World => wz
              obtain ⟨hj, hwz⟩ := HJ.out
              replace hwz := hwz.symm
              subst hwz
              have jl : (j : Int) < (lt : Int) := by omega
              have hji : j < is.length := by have := HCH.out.2.2.2.2.2.2.1; omega
              have hjc : j < ch.length := by have := HCH.out.2.2.1; omega
              have hjt : j < tL.length := by have := HCH.out.2.2.2.2.2.2.2; omega
              obtain ⟨d0, d1⟩ := two_at G10.out
              obtain ⟨bI, oI, hia, q2⟩ := HL10.out.i.r j hji
              simp only at hia
              subst hia
              rw [List.getD_eq_getElem?_getD, List.getElem?_eq_getElem hji, Option.getD_some] at q2
              have hcj : is[j] = ch[j].1 := by simp [HCH.out.1]
              generalize is[j] = cj at *
              by_cases heq : cj = id
              · replace heq := heq.symm
                subst heq
                have hyj : ch[j] = y := fst_uniq HCH.out.2.2.2.2.1 (List.getElem_mem hjc) HCH.out.2.2.2.2.2.1 (by rw [← hcj]; exact HY.out.2.1)
                -- FOUND
                have hXD : Below wr.heap.size wr w10 := BR9.out.trans (B910.out.mono BR9.out.size)
                have pd1 := (HF.out w10 hXD).2.2.2.2.2.2
                obtain ⟨F2, hrx⟩ := (HF.out w10 hXD).1.rx
                obtain ⟨g2, c2', M2, D2, Lr, hra, hnds, _, _⟩ := hrx
                obtain ⟨jd, hjd0, hjd1, _⟩ := AS.idx (show s.inn id by rw [HY.out.2.1]; exact HY.out.1)
                have hjd : jd < Lr.length := by rw [ndsR_lenS hnds]; exact hjd0
                obtain ⟨hsw, hsn⟩ := ndsR_at hnds hjd hjd1
                have hwd : Lr[jd].w = wd := by rw [← hsw, HY.out.2.1]; exact HY.out.2.2.1.symm
                have hra1 : w10.cell? ⟨AY, 1, none⟩ = some (.slice (some ⟨g2, 0, none⟩) Lr.length c2') := by rw [cell_of_row _ _ _ _ _ _ hra.a]; rfl
                have r0 : w10.cell? ⟨g2, jd * 7, none⟩ = some (.int .u64 (Lr[jd].w : Nat)) := hra.at_ jd hjd 0 (by omega)
                obtain ⟨r1, r2, r3, r4, r5, r6⟩ := hra.node6 jd hjd
                have hno := (hra.sl Lr[jd] (List.getElem_mem hjd)).n
                rw [hwd] at r0
                generalize Lr[jd] = rs at *
                obtain ⟨rw9, ⟨rlv, ⟨rha, rhc, rhs⟩, rri, ⟨rka, rkc, RK⟩, ⟨rva, rvc, RV⟩, ⟨rca, rcc, RC⟩⟩⟩ := rs
                simp only [Tx.v, TL.v, IL.v] at r1 r2 r3 r4 r5 r6 hsn hno
                obtain ⟨rlh, hq1⟩ : ∃ z, rhs.length = z := ⟨_, rfl⟩
                obtain ⟨rlk, hq2⟩ : ∃ z, RK.length = z := ⟨_, rfl⟩
                obtain ⟨rlw, hq3⟩ : ∃ z, RV.length = z := ⟨_, rfl⟩
                obtain ⟨rlc, hq4⟩ : ∃ z, RC.length = z := ⟨_, rfl⟩
                obtain ⟨lr, hlr⟩ : ∃ z, Lr.length = z := ⟨_, rfl⟩
                rw [hlr] at hra1 hjd
                rw [hq1] at r2
                rw [hq2] at r4
                rw [hq3] at r5
                rw [hq4] at r6
                have HRN : Hid ((⟨rlv, ⟨rha, rhc, rhs⟩, rri, ⟨rka, rkc, RK⟩, ⟨rva, rvc, RV⟩, ⟨rca, rcc, RC⟩⟩ : Nd).Ok w10 ∧ s.n id = (⟨rlv, ⟨rha, rhc, rhs⟩, rri, ⟨rka, rkc, RK⟩, ⟨rva, rvc, RV⟩, ⟨rca, rcc, RC⟩⟩ : Nd).p ∧ rhs.length = rlh ∧ RK.length = rlk ∧ RV.length = rlw ∧ RC.length = rlc) := ⟨hno, hsn, hq1, hq2, hq3, hq4⟩
                have hjr : (jd : Int) < (lr : Int) := by omega
                have hlr6 : Hid ((lr : Int) ≤ 65536) := by
                  have h1 := hra.le
                  have h2 := hra.nz
                  rw [hlr] at h1
                  exact Int.le_trans h1 h2
                have hwj : IntKind.i64.wrap (id - 1) = (jd : Int) := by have := hlr6.out; rw [IntKind.wrap_i64]; omega
                obtain ⟨w11, hw11⟩ : ∃ z, z = w10.alloc (.cells #[.int .u64 (wd : Nat), .int .i64 rlv, .slice rha rlh rhc, .int .i64 rri, .slice rka rlk rkc, .slice rva rlw rvc, .slice rca rlc rcc] 76) := ⟨_, rfl⟩
                have b11 : Below w10.heap.size w10 w11 := by rw [hw11]; exact (Below.refl _ _).alloc (Nat.le_refl _) _
                have G11 : Hid (w11.heap[w10.heap.size]? = some (.cells #[.int .u64 (wd : Nat), .int .i64 rlv, .slice rha rlh rhc, .int .i64 rri, .slice rka rlk rkc, .slice rva rlw rvc, .slice rca rlc rcc] 76 (0, 0))) := by show _ = _; rw [hw11]; exact heap_alloc_new w10 _
                have HW11 := hide hw11
                have B11 := hide b11
                have X11 := hide (hXD.trans (b11.mono hXD.size))
                obtain ⟨_, hk11, _, _, g11, p0, p1⟩ := HF.out w11 X11.out
                obtain ⟨_, _, _, _, _, t6, _⟩ := dt_cells g11
                obtain ⟨v0, v1, v2, v3, v4, v5, v6⟩ := slt_cells G11.out
                have HBY : Hid (Calls Tryz.prog 28 #[.agg #[.int .i64 rlv, .slice rha rlh rhc, .int .i64 rri, .slice rka rlk rkc, .slice rva rlw rvc, .slice rca rlc rcc], .slice ka kl kc] w11 fun e w' => e = .returned (.bool false) ∧ Below w11.heap.size w11 w') := by
                  have h1 := rbeyond_any (⟨rlv, ⟨rha, rhc, rhs⟩, rri, ⟨rka, rkc, RK⟩, ⟨rva, rvc, RV⟩, ⟨rca, rcc, RC⟩⟩ : Nd) ⟨ka, kc, kz⟩ w11 (HRN.out.1.below b11) hk11
                  simp only [Nd.v, Tx.v, TL.v, IL.v, HRN.out.2.2.1, HRN.out.2.2.2.1, HRN.out.2.2.2.2.1, HRN.out.2.2.2.2.2, HKL.out] at h1
                  have h2 : beyB rhs kz = false := by
                    have h3 : (s.n id).hi = rhs := by rw [HRN.out.2.1]; rfl
                    rw [← h3, HY.out.2.1]; exact HY.out.2.2.2.2.1
                  rw [h2] at h1
                  exact h1
                obtain ⟨bT, oT, hta, q3⟩ := HL10.out.o.r j hjt
                have htok := HL10.out.o.ok tL[j] (List.getElem_mem hjt)
                have hts : tL[j].s = y.2 := by
                  have h1 := HCH.out.2.1
                  have h2 : (⟨ta, tc, tL⟩ : TL).p[j]'(by rw [TL.p_len]; exact hjt) = (ch.map (·.2))[j]'(by rw [List.length_map]; exact hjc) := by simp only [h1]
                  rw [TL.p_at _ _ hjt, List.getElem_map, hyj] at h2
                  exact h2
                simp only at hta
                subst hta
                generalize tL[j] = tx at *
                obtain ⟨la, lc', lz⟩ := tx
                simp only [Tx.v] at q3 hts htok
                obtain ⟨ll, hll⟩ : ∃ z, lz.length = z := ⟨_, rfl⟩
                rw [hll] at q3
                obtain ⟨cv, hcv⟩ : ∃ cv, cmpI kz lz = cv := ⟨_, rfl⟩
                have jc : 0 ≤ cv := by rw [← hcv, hts]; exact HY.out.2.2.2.2.2
                have HTX : Hid ((⟨la, lc', lz⟩ : Tx).Ok w10 ∧ lz.length = ll ∧ cmpI kz lz = cv) := ⟨htok, hll, hcv⟩
                have HQ3 := hide q3
                clear hw11 b11 hk11 g11 hyj htok hts hll hcv hra hnds hjd0 hsw hwd hno hsn hq1 hq2 hq3 hq4 hlr hjd hXD hcj hjd1 hli6 hvn' hpl hji hjc hjt q3
                go_upto_region 37 with fail
                rw [← HW11.out]
                clear r0 r1 r2 r3 r4 r5 r6 HW11 hra1 hjr hwj d0 d1 q2 pd1
                go_wp2_with fail
                refine HBY.out.mono ?_
                rintro e w12 ⟨rfl, hb12⟩
                have X12 := hide (X11.out.trans (hb12.mono X11.out.size))
                have B12 := hide (B11.out.trans (hb12.mono B11.out.size))
                have G12 : Hid (w12.heap[w10.heap.size]? = some (.cells #[.int .u64 (wd : Nat), .int .i64 rlv, .slice rha rlh rhc, .int .i64 rri, .slice rka rlk rkc, .slice rva rlw rvc, .slice rca rlc rcc] 76 (0, 0))) := (hb12.block _ (lt_of_block G11.out)).trans G11.out
                have GX12 : Hid (w12.heap[w6.heap.size]? = some (.cells #[.int .i64 xlv, .slice xha xlh xhc, .int .i64 xri, .slice xka xlk xkc, .slice xva xlw xvc, .slice xca xlc xcc] 61 (0, 0))) := ((B910.out.trans (B12.out.mono B910.out.size)).block _ (lt_of_block G9.out)).trans G9.out
                have GC12 : Hid (w12.heap[w9.heap.size]? = some (.cells #[.slice (some ⟨bI, oI, none⟩) lt ic, .slice (some ⟨bT, oT, none⟩) lt tc] 74 (0, 0))) := (B12.out.block _ (lt_of_block G10.out)).trans G10.out
                have q12 : w12.cell? ⟨bT, oT + j, none⟩ = some (.slice la ll lc') := (B12.out.cell (p := ⟨bT, oT + j, none⟩) (World.block_lt_of_cell? w10 ⟨bT, oT + j, none⟩ HQ3.out)).trans HQ3.out
                obtain ⟨_, hk12, _, _, g12, _, _⟩ := HF.out w12 X12.out
                obtain ⟨_, _, _, _, _, s6, _⟩ := dt_cells g12
                obtain ⟨d0, d1⟩ := two_at GC12.out
                have HCM : Hid (∀ m, Calls Tryz.prog 15 #[.slice ka kl kc, .slice la ll lc'] (w12.drewN m) fun e w' => e = .returned (.int .i64 cv) ∧ ∃ n, w' = w12.drewN n) := fun m => by
                  have htk := (HTX.out.1.below B12.out).drewN m
                  have h1 := rcmp_any ka la kl kc ll lc' kz lz (w12.drewN m) HKL.out HTX.out.2.1 (by have := hk12.z; simp only [HKL.out] at this; omega) (by have := htk.z; simp only [HTX.out.2.1] at this; omega) (hk12.drewN m).r htk.r
                  rw [HTX.out.2.2] at h1
                  exact Calls.quiet_of h1
                clear hb12 g12 HBY p0 p1 t6 v0 v1 v2 v3 v4 v5 v6 G11
                have HK12 := hide hk12
                clear hk12
                go_upto_region 38 with fail
                go_quiet (first
                  | (go_at_call 15; with_reducible exact HCM.out _))
                obtain ⟨w13, hw13⟩ : ∃ w13, w13 = w12.drewN nq := ⟨_, rfl⟩
                rw [← hw13]
                have b13 : Below w12.heap.size w12 w13 := by rw [hw13]; exact below_drewN (Below.refl _ _) nq
                have G13 := (b13.block _ (lt_of_block G12.out)).trans G12.out
                have GX13 := (b13.block _ (lt_of_block GX12.out)).trans GX12.out
                obtain ⟨v0, v1, v2, v3, v4, v5, v6⟩ := slt_cells G13
                obtain ⟨z0, z1, z2, z3, z4, z5⟩ := Six.of GX13
                have HSN : Hid (Calls Tryz.prog 29 #[.agg #[.int .i64 xlv, .slice xha xlh xhc, .int .i64 xri, .slice xka xlk xkc, .slice xva xlw xvc, .slice xca xlc xcc], .agg #[.int .i64 rlv, .slice rha rlh rhc, .int .i64 rri, .slice rka rlk rkc, .slice rva rlw rvc, .slice rca rlc rcc]] w13 fun e w' => e = .returned (.bool true) ∧ Below w13.heap.size w13 w') := by
                  have hx := XO9.out.ok
                  have b1013 : Below w10.heap.size w10 w13 := B12.out.trans (b13.mono B12.out.size)
                  have h1 := sameNode_any (⟨xlv, ⟨xha, xhc, xhs⟩, xri, ⟨xka, xkc, XK⟩, ⟨xva, xvc, XV⟩, ⟨xca, xcc, XC⟩⟩ : Nd) (⟨rlv, ⟨rha, rhc, rhs⟩, rri, ⟨rka, rkc, RK⟩, ⟨rva, rvc, RV⟩, ⟨rca, rcc, RC⟩⟩ : Nd) w13 (hx.below (B910.out.trans (b1013.mono B910.out.size))) (HRN.out.1.below b1013) (by rw [← HRN.out.2.1, HXO.out.1, HY.out.2.2.2.1, HY.out.2.1])
                  simp only [Nd.v, Tx.v, TL.v, IL.v, HRN.out.2.2.1, HRN.out.2.2.2.1, HRN.out.2.2.2.2.1, HRN.out.2.2.2.2.2, HQ.out.1, HQ.out.2.1, HQ.out.2.2.1, HQ.out.2.2.2] at h1
                  exact h1
                have HFN : Hid (∀ Y, Below w13.heap.size w13 Y → Below w.heap.size w Y) := fun Y hb => HFIN.out Y (B910.out.trans ((B12.out.trans ((b13.trans (hb.mono b13.size)).mono B12.out.size)).mono B910.out.size))
                clear hw13 b13 G13 GX13 HCM
                go_wp2_with fail
                refine HSN.out.mono ?_
                rintro e w14 ⟨rfl, hb14⟩
                have HB14 := hide hb14
                clear hb14
                go_wp2_with fail
                go_ret
                exact ⟨rfl, HFN.out _ HB14.out⟩
              · have hne : ¬ cj = id := heq
                have hjp : j + 1 ≤ pos := by
                  refine Nat.lt_of_le_of_ne hj fun e => heq ?_
                  obtain ⟨hp, hp2⟩ := HPOS.out
                  subst e
                  rw [hcj, hp2]
                  exact HY.out.2.1.symm
                clear hcj
                go_wp2_with fail
                go_roundw
                case rel => exact ⟨j + 1, by go_num, ⟨hjp, by first | trivial | rfl⟩⟩
                case measure => simp [intOf]; omega
end Go.Proofs.YtibifkindpgkgaaGreat
