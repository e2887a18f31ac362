/- block: readWhole, walked. -/
import Derived.Test.YthloaabdlciefaaG39
import Derived.Deep.DeepCutAuto
import Derived.Deep.CutBlock
namespace Go.Proofs.Ythloaabdlciefaa
open Go.RowKit

def slen : Value → Nat
  | .slice _ n _ => n
  | _ => 0
/-- In the midst of a round: the table is right already. -/
structure RwM (w wr : World) (g ga : Nat) (a : Option Addr) (l c n k : Nat) (s : RS) (Es : List Ent) (va vt : Value) (ts : List Int) : Prop where
  wk : WkR wr w.heap.size g a l c s.p n k (ahd s.l) va
  eb : ∃ cur, wr.heap[ga]? = some (.cells cur 25 (0, 0)) ∧ cur.size = n * 2 ∧ ∀ i (h : i < Es.length), cur[i * 2]? = some Es[i].kv ∧ cur[i * 2 + 1]? = some Es[i].vv
  ot : wr.ownsRow w.heap.size 5 1 vt ts.length (ts.map (Value.int .u8))
  ok : ∀ i (h : i < Es.length), OwnB wr w.heap.size 5 Es[i].kv Es[i].ks ∧ OwnB wr w.heap.size 5 Es[i].vv Es[i].vs
  sep : ∀ i (h : i < Es.length) b, (Es[i].kv.ownBlock = some b ∨ Es[i].vv.ownBlock = some b) → ¬ WkM g va b ∧ b ≠ ga ∧ vt.ownBlock ≠ some b
  dt : ∀ b, vt.ownBlock = some b → ¬ WkM g va b ∧ b ≠ ga
  bel : Below w.heap.size w wr

theorem RwI.mid {w wr w3 : World} {g ga : Nat} {a : Option Addr} {l c n k : Nat} {s : RS} {Es : List Ent} {va vt v' : Value} {ts : List Int} (h : RwI w wr g ga a l c n k s Es va vt) (ho : w3.ownsRow w.heap.size 5 1 v' ts.length (ts.map (Value.int .u8))) (hg : wr.grownBy w3 vt.ownBlock) (hk : ∀ k, v'.ownBlock = some k → vt.ownBlock = some k ∨ wr.heap.size ≤ k) : RwM w w3 g ga a l c n k s Es va v' ts := by
  obtain ⟨q1, q2, q3, q4, q5, q6⟩ := h.table hg hk
  exact ⟨q1, q2, ho, q3, q4, q5, q6⟩

theorem run_madeE (n : Nat) (hn : n ≤ 1000) (w : World) : ∃ cur : Array Value, cur.size = n * 2 ∧ (Instr.makeSlice 26 (.int .i64 0) (.int .i64 (n : Int))).run Try.prog w = .ok (.slice (some ⟨w.heap.size, 0, none⟩) 0 n) (w.alloc (.cells cur 25)) := by
  obtain ⟨i0, hi0, hz0, hz1, hz2⟩ := info_parts infoE
  have h := run_make (P := Try.prog) w 26 25 i0 (.agg #[.slice none 0 0, .slice none 0 0]) Try.underlying26 hi0 hz0 .i64 .i64 0 n (by omega) (by omega) (by rw [hz2]; omega) (by omega)
  rw [hz1] at h
  simp only [Int.toNat_natCast] at h
  exact ⟨_, by simp [madeCells], h⟩

set_option maxRecDepth 100000 in
set_option maxHeartbeats 3200000 in
theorem readWhole_any (a : Option Addr) (l c : Nat) (zs : List Int) (w : World) (hl : zs.length = l) (hm : l ≤ 140737488400000) (hcl : l ≤ c) (na : a = none → l = 0 ∧ c = 0) (hr : Row w .u8 a zs) (z8 : B8 zs) :
    Calls Try.prog 37 #[.slice a l c] w (RwPost w zs) := by
  obtain ⟨i0, hi0, hz0, hz1, hz2⟩ := info_parts infoByte'
  obtain ⟨iE, hiE, _, hzE, _⟩ := info_parts infoE
  have HS := hide (start_any a l c zs w hl hm hr z8)
  have hra : Hid (∀ x, a = some x → 0 < l → x.block < w.heap.size) := fun x hx h0 => by
    obtain ⟨b', o', h1, h2, _⟩ := hr.cons (by omega)
    rw [hx] at h1; cases h1; exact h2
  have HR := hide hr
  have HNA := hide na
  clear hr na
  go_enter Try.func37, Try.ntmps37
  go_wp2_with fail
  refine HS.out.mono ?_
  rintro e w1 ⟨hb1, ⟨hst, g, hgN, rfl, hwk⟩ | ⟨hst, rfl⟩⟩
  · obtain ⟨hbR, hn1, hn64⟩ := bRes_at hst
    have hx0 := (rd_at zs 0 z8 (Nat.zero_le _)).2.2.2.1
    obtain ⟨x0, hx0'⟩ : ∃ x0, x0 = nx zs 0 := ⟨_, rfl⟩
    obtain ⟨n, hn'⟩ : ∃ n, n = nm zs 0 := ⟨_, rfl⟩
    rw [← hx0'] at hbR hwk hx0
    rw [← hn'] at hbR hwk hn1 hn64
    have HINV := hide (fun k (hk : k ≤ 64) => rinv z8 hx0 k hk)
    have HBR := hide hbR
    have B1 := hide hb1
    have c2 := hwk.cells.2.2.1
    obtain ⟨cur, hcur, hmk⟩ := run_madeE n (by omega) w1
    have HWK := hide hwk
    have hga : Hid (RwI w (w1.alloc (.cells cur 25)) g w1.heap.size a l c n 0 (rrun zs x0 0) [] (.slice none 0 0) (.slice none 0 0)) := by
      have hb2 : Below w1.heap.size w1 (w1.alloc (.cells cur 25)) := (Below.refl _ _).alloc (Nat.le_refl _) _
      refine ⟨hwk.upd (Upd.of_below hb2 Noth) (fun _ _ e => e), ⟨cur, heap_alloc_new w1 _, hcur, fun i h => absurd h (Nat.not_lt_zero i)⟩, World.ownsRow_nil _ _ _ _, rfl, fun i h => absurd h (Nat.not_lt_zero i), fun i h => absurd h (Nat.not_lt_zero i), (fun b h => by cases h), (fun h => by have := (hwk.lt _ h).2; omega), hb1.size, hb1.trans (hb2.mono hb1.size)⟩
    clear hbR hx0' hn' hwk hb1 hcur HS
    go_wp2_with fail
    generalize w1.alloc (.cells cur 25) = w2 at *
    obtain ⟨ga, hga'⟩ : ∃ ga, ga = w1.heap.size := ⟨_, rfl⟩
    rw [← hga'] at hga ⊢
    clear hga' hmk c2 HWK
    go_loopw [4, 5] (fun q4 q5 wr => ∃ (k nt : Nat) (at' : Option Addr) (ct : Nat) (Es : List Ent) (va : Value), k ≤ n ∧ q4 = .slice (some ⟨ga, 0, none⟩) k n ∧ q5 = .slice at' nt ct ∧ Hid ((tabP (rrun zs x0 k).ps k).length = nt) ∧ Hid ((rrun zs x0 k).e = 0) ∧ Hid (RwI w wr g ga a l c n k (rrun zs x0 k) Es va (.slice at' nt ct))) (fun q _ _ => n - slen q)
    case atStart => exact ⟨0, 0, none, 0, [], _, Nat.zero_le _, rfl, rfl, rfl, rfl, hga⟩
    case round =>
      clear hga
      obtain ⟨k, nt, at', ct, Es, va, hk, rfl, rfl, LT, HE0, HI⟩ := hrel
      obtain ⟨hinv, hlk, _⟩ := HINV.out k (by omega)
      have hlk' := hlk HE0.out
      have hpz := hinv.p
      have hps := hinv.ps
      have hgood := hinv.good (by omega)
      obtain ⟨s, hs⟩ : ∃ s, s = rrun zs x0 k := ⟨_, rfl⟩
      have HSS := hide hs
      rw [← hs] at LT HE0 HI hlk' hpz hps hgood
      have HLK := hide hlk'
      have HPS : Hid (s.ps.length = k) := hide (by rw [hps, hlk'])
      have HGD := hide hgood
      have hEs : Es.length = k := by rw [← kvs_len, HI.out.kv, hlk']
      have HKV := hide HI.out.kv
      have HDG := hide HI.out.dg
      have HGN := hide HI.out.gN
      clear hinv hlk hs hps hgood hlk'
      have HLF := hide (left_any HI.out.wk)
      by_cases hlt : k < n
      · rw [decide_eq_true hlt] at HLF
        go_wp2_with fail
        refine HLF.out.mono ?_
        rintro e w3 ⟨rfl, m, hw3⟩
        have HI3 : Hid (RwI w w3 g ga a l c n k s Es va (.slice at' nt ct)) := HI.out.below (by rw [hw3]; exact below_of_drewN (Below.refl _ _) m)
        clear hw3 HLF HI
        have c1 := HI3.out.wk.cells.2.1
        have c3 := HI3.out.wk.cells.2.2.2.1
        have HRS := hide (restart_any k w3 (by omega))
        have HSP := hide (spell_any s.p w3)
        obtain ⟨ts, hts⟩ : ∃ ts, ts = tabP (s.ps ++ [s.p]) (k + 1) := ⟨_, rfl⟩
        have HTS : Hid (ts = if k % 8 = 0 then tabP s.ps k ++ sp2 s.p else tabP s.ps k) := by
          show _ = _
          rw [hts]
          have := tabP_snoc s.ps s.p
          rw [HPS.out] at this
          exact this
        have hntl : nt ≤ 100 := by have := LT.out; rw [tabP_len] at this; omega
        obtain ⟨nt', hnt'⟩ : ∃ k, ts.length = k := ⟨_, rfl⟩
        have LT' := hide hnt'
        have hnt2 : nt' ≤ 100 := by rw [← hnt', hts, tabP_len]; omega
        replace hts := hide hts
        clear hnt'
        go_wp2_with fail
        refine keep HRS.out ?_
        obtain ⟨b8, hb8⟩ : ∃ b8, b8 = decide (k % 8 = 0) := ⟨_, rfl⟩
        rw [← hb8]
        replace hb8 := hide hb8
        go_upto_if 19 with fail
        go_cut [5] (fun s5 wx => ∃ (a5 : Option Addr) (c5 : Nat), s5 = .slice a5 nt' c5 ∧ Hid (RwM w wx g ga a l c n k s Es va (.slice a5 nt' c5) ts))
        case first =>
          by_cases h8 : k % 8 = 0
          · obtain rfl : b8 = true := by rw [hb8.out, decide_eq_true h8]
            have hb1 : Below w3.heap.size w3 (w3.alloc (.cells #[.int .u8 ((s.p % 256 : Nat) : Int), .int .u8 ((s.p / 256 % 256 : Nat) : Int)] 5)) := (Below.refl _ _).alloc (Nat.le_refl _) _
            have HI4 := hide (HI3.out.below hb1)
            have HR1 := hide (two_row w3 ((s.p % 256 : Nat) : Int) ((s.p / 256 % 256 : Nat) : Int) 5)
            have hbz : Hid (w.heap.size ≤ (w3.alloc (.cells #[.int .u8 ((s.p % 256 : Nat) : Int), .int .u8 ((s.p / 256 % 256 : Nat) : Int)] 5)).heap.size) := HI4.out.bel.size
            have ht9 : Hid (tabP s.ps k ++ [((s.p % 256 : Nat) : Int), ((s.p / 256 % 256 : Nat) : Int)] = ts) := by show _ = _; rw [HTS.out, if_pos h8]; rfl
            have ZB : Hid ((tabP s.ps k).length + 2 ≤ 140737488355328) := by show _ ≤ _; rw [LT.out]; omega
            clear hb1
            go_wp2_with fail
            refine HSP.out.mono ?_
            rintro e w4 ⟨rfl, rfl⟩
            go_wp2_with (first
              | (at_builtin; refine app_list rfl (.tmp 20) (.tmp 25) 23 rfl w.heap.size 5 i0 Try.underlying23 hi0 hz0 hz1 hz2 (.slice at' nt ct) (tabP s.ps k) rfl HI4.out.ot (some ⟨w3.heap.size, 0, none⟩) 2 2 [((s.p % 256 : Nat) : Int), ((s.p / 256 % 256 : Nat) : Int)] rfl rfl (by intro h; cases h) HR1.out ZB.out hbz.out ?_; intro v4 w4 ho4 hg4 hk4; rw [ht9.out] at ho4; have HM4 := hide (HI4.out.mid ho4 hg4 hk4); obtain ⟨a5, c5, rfl, _⟩ := owns_openN ho4 LT'.out; clear ho4 hg4 hk4)
              | fail)
            go_meet
            exact ⟨a5, c5, rfl, HM4⟩
          · obtain rfl : b8 = false := by rw [hb8.out, decide_eq_false h8]
            have ht9 : ts = tabP s.ps k := by rw [HTS.out, if_neg h8]
            obtain rfl : nt' = nt := by rw [← LT'.out, ht9, LT.out]
            go_wp2_with fail
            go_meet
            exact ⟨at', ct, rfl, HI3.out.wk, HI3.out.eb, by rw [ht9]; exact HI3.out.ot, HI3.out.ok, HI3.out.sep, HI3.out.dt, HI3.out.bel⟩
        case rest =>
          obtain ⟨a5, c5, rfl, HM⟩ := hcut
          clear HI3 HSP HRS c1 c3 HTS hb8
          have HEN := hide (entry_any HM.out.wk hl hm hcl HNA.out (HR.out.below2 HM.out.bel) (fun x hx h0 hm => by have h1 := hra.out x hx h0; have h2 := (HM.out.wk.lt _ hm).1; omega) z8 HGD.out.ahd8 HGD.out.ahdl (by omega))
          have hpv : (if k % 8 = 0 then [] else ahd s.l) = pvS s.l := by unfold pvS; rw [HLK.out]
          rw [hpv] at HEN
          obtain ⟨se1, se2, se3⟩ := step_e (zs := zs) HE0.out (by omega)
          have SE1 := hide se1
          have SE2 := hide se2
          have SE3 := hide se3
          clear hpv se1 se2 se3
          go_wp2_with fail
          refine HEN.out.mono ?_
          rintro e w5 (⟨he, ⟨ka, kc, v2, vc, N, vn, rfl, hk5, hv5, hN5, hkN5, wk5, hu5, fp5, sp5⟩⟩ | ⟨he, rfl, hb5⟩)
          · have HRR : Hid (rrun zs x0 (k + 1) = ⟨s.l ++ [(xKy (pvS s.l) zs s.p, xVl (pvS s.l) zs s.p)], s.ps ++ [s.p], xPl (pvS s.l) zs s.p, 0, 0⟩) := by show _ = _; rw [rrun, ← HSS.out]; exact SE3.out he
            generalize xKy (pvS s.l) zs s.p = K at *
            generalize xVl (pvS s.l) zs s.p = V at *
            generalize xPl (pvS s.l) zs s.p = p' at *
            have HNX := hide (fun W6 hW6 => RwI.next (W6 := W6) HM.out.wk HM.out.eb HM.out.ot HKV.out hEs HM.out.ok HM.out.sep HM.out.dt HDG.out HGN.out HM.out.bel ka kc v2 vc N vn hk5 hv5 hN5 wk5 hu5 fp5 sp5 hlt hts.out hW6)
            rw [← HRR.out] at HNX
            have hcur : ∃ cur, (w5.alloc (.cells #[.slice ka K.length kc, .slice v2 V.length vc] 25)).heap[ga]? = some (.cells cur 25 (0, 0)) ∧ cur.size = n * 2 := by
              obtain ⟨cur, q1, q2, _⟩ := HM.out.eb
              have q3 := hu5.heap q1 HDG.out
              exact ⟨cur, (Below.heap_alloc _ _ _ (lt_of_block q3)).trans q3, q2⟩
            obtain ⟨cur, hcur1, hcur2⟩ := hcur
            have HCU := hide hcur1
            have Y := hide (two_new2 w5 (.slice ka K.length kc) (.slice v2 V.length vc) 25)
            replace hcur2 := hide hcur2
            clear hk5 hv5 hN5 hkN5 wk5 hu5 fp5 sp5 hcur1 HEN SE1 SE2 SE3
            obtain ⟨nK, hnK⟩ : ∃ x, K.length = x := ⟨_, rfl⟩
            obtain ⟨nV, hnV⟩ : ∃ x, V.length = x := ⟨_, rfl⟩
            rw [hnK, hnV] at Y HCU
            rw [hnK, hnV]
            have HNX2 : Hid (∀ W6, Hid (W6 = ((w5.alloc (.cells #[.slice ka nK kc, .slice v2 nV vc] 25)).setCell ⟨ga, k * 2, none⟩ (.slice ka nK kc)).setCell ⟨ga, k * 2 + 1, none⟩ (.slice v2 nV vc)) → RwI w W6 g ga a l c n (k + 1) (rrun zs x0 (k + 1)) (Es ++ [⟨ka, kc, K, v2, vc, V⟩]) vn (.slice a5 nt' c5)) := fun W6 h => HNX.out W6 (by rw [hnK, hnV]; exact h.out)
            have hT' : Hid ((tabP (rrun zs x0 (k + 1)).ps (k + 1)).length = nt') := by show _ = _; rw [HRR.out]; simp only; rw [← hts.out]; exact LT'.out
            have hE' : Hid ((rrun zs x0 (k + 1)).e = 0) := by show _ = _; rw [HRR.out]
            clear hnK hnV HNX HRR
            go_wp2_with (first
              | (at_builtin; refine app_room rfl (.tmp 27) (.tmp 30) 26 rfl 25 iE Try.underlying26 hiE hzE ga k n rfl cur 25 HCU.out hcur2.out hlt ⟨w5.heap.size, 0, none⟩ 1 (.slice ka nK kc) (.slice v2 nV vc) rfl Y.out.1 Y.out.2 rfl rfl ?_)
              | fail)
            go_roundw
            case rel => exact ⟨k + 1, nt', a5, c5, _, vn, by omega, rfl, rfl, hT', hE', HNX2.out _ rfl⟩
            case measure => simp [slen]; omega
          · have HF : Hid (RwPost w zs (fallen (eE (pvS s.l) (ahd s.l) zs s.p) (eP (pvS s.l) zs s.p : Nat)) w5) := by
              have hre : (rrun zs x0 (k + 1)).e = eE (pvS s.l) (ahd s.l) zs s.p ∧ (rrun zs x0 (k + 1)).q = eP (pvS s.l) zs s.p := by
                rw [rrun, ← HSS.out]
                exact ⟨SE1.out.symm, (SE2.out he).symm⟩
              have hbf := bFin_fail (zs := zs) (p0 := x0) (k := k) (n := n) (by rw [hre.1]; exact he) hlt
              rw [← HBR.out, hre.1, hre.2] at hbf
              refine ⟨HM.out.bel.trans (hb5.mono HM.out.bel.size), .inr ?_⟩
              rw [hbf]
              exact ⟨he, rfl⟩
            exact ⟨rfl, HF.out⟩
      · obtain rfl : k = n := by omega
        rw [decide_eq_false hlt] at HLF
        go_wp2_with fail
        refine HLF.out.mono ?_
        rintro e w3 ⟨rfl, m, hw3⟩
        have HI3 : Hid (RwI w w3 g ga a l c k k s Es va (.slice at' nt ct)) := HI.out.below (by rw [hw3]; exact below_of_drewN (Below.refl _ _) m)
        clear hw3 HLF HI
        have HFN := hide (finish_any at' nt ct HI3.out.wk hl hm hcl (by omega) (HR.out.below2 HI3.out.bel) LT.out (by have := LT.out; rw [tabP_len] at this; omega) (row_of_owns2 (n := nt) (by have := HI3.out.ot; rw [LT.out] at this; exact this)))
        have HBF : Hid (bRes zs = bFin zs s) := by show _ = _; rw [HBR.out, HSS.out]
        go_wp2_with fail
        refine HFN.out.mono ?_
        rintro e w4 ⟨hb4, hcase⟩
        have hbF : bFin zs s = (if comN (zs.drop s.p) (tabP s.ps k) < (tabP s.ps k).length then ([], 62, s.p + comN (zs.drop s.p) (tabP s.ps k)) else if comN (zs.drop s.p) (tabP s.ps k) < (zs.drop s.p).length then ([], 63, s.p + comN (zs.drop s.p) (tabP s.ps k)) else (s.l, 0, 0)) := by
          unfold bFin
          rw [if_neg (by rw [HE0.out]; simp), HPS.out]
        rw [← HBF.out] at hbF
        have hbb : Below w.heap.size w w4 := HI3.out.bel.trans (hb4.mono HI3.out.bel.size)
        by_cases h1 : comN (zs.drop s.p) (tabP s.ps k) < (tabP s.ps k).length
        · rw [if_pos h1] at hcase hbF
          subst hcase
          exact ⟨rfl, hbb, .inr (by rw [hbF]; exact ⟨by simp, rfl⟩)⟩
        · rw [if_neg h1] at hcase hbF
          by_cases h2 : comN (zs.drop s.p) (tabP s.ps k) < (zs.drop s.p).length
          · rw [if_pos h2] at hcase hbF
            subst hcase
            exact ⟨rfl, hbb, .inr (by rw [hbF]; exact ⟨by simp, rfl⟩)⟩
          · rw [if_neg h2] at hcase hbF
            obtain ⟨v, rfl⟩ := hcase
            have HI4 := hide (HI3.out.below hb4)
            have HF : Hid (RwPost w zs (.returned (.slice (some ⟨ga, 0, none⟩) k k)) w4) := by
              refine ⟨hbb, .inl ⟨by rw [hbF], ga, Es, by rw [hEs], ⟨?_, HI4.out.ok, fun i hi b hb => (HI4.out.sep i hi b hb).2.1, HI4.out.gN⟩, by rw [hbF]; exact HI4.out.kv⟩⟩
              obtain ⟨cur, q1, q2, q3⟩ := HI4.out.eb
              exact ⟨cur, q1, by rw [hEs]; exact q2, q3⟩
            clear hbF hbb hb4 h1 h2 HFN
            go_wp2_with fail
            go_ret
            exact HF.out
  · have HF : Hid (RwPost w zs (fallen (stE zs) (stP zs : Nat)) w1) := ⟨hb1, .inr (by rw [bRes_st hst]; exact ⟨hst, rfl⟩)⟩
    exact ⟨rfl, HF.out⟩

end Go.Proofs.Ythloaabdlciefaa

namespace Go.Proofs.Ythloaabdlciefaa
open Go.RowKit

def One (W : World) (g : Nat) (t : TypeId) (v : Value) : Prop := W.heap[g]? = some (.cells #[v] t (0, 0))
theorem One.cell {W : World} {g : Nat} {t : TypeId} {v : Value} (h : One W g t v) : W.cell? ⟨g, 0, none⟩ = some v := by rw [cell_of_row _ _ _ _ _ _ h]; rfl
theorem One.fr {W : World} {g : Nat} {t : TypeId} {v : Value} (h : One W g t v) : W.frozen? ⟨g, 0, none⟩ = false := frozen_blk h 0
theorem ElOk.upd {W W' : World} {N ga : Nat} {Es : List Ent} {S : Nat → Prop} (h : ElOk W N ga Es) (hu : Upd S W W') (hs : ∀ i, N ≤ i → i < W.heap.size → ¬ S i) : ElOk W' N ga Es := by
  obtain ⟨cur, h1, h2, h3⟩ := h.eb
  exact ⟨⟨cur, hu.heap h1 (hs _ h.gN (lt_of_block h1)), h2, h3⟩, fun i hi => ⟨(h.ok i hi).1.upd hu (fun b hb => hs b ((h.ok i hi).1.owns.lt b hb).1 ((h.ok i hi).1.owns.lt b hb).2), (h.ok i hi).2.upd hu (fun b hb => hs b ((h.ok i hi).2.owns.lt b hb).1 ((h.ok i hi).2.owns.lt b hb).2)⟩, h.sep, h.gN⟩
theorem ElOk.below {W W' : World} {N ga : Nat} {Es : List Ent} (h : ElOk W N ga Es) (hb : Below W.heap.size W W') : ElOk W' N ga Es := h.upd (Upd.of_below hb Noth) (fun _ _ _ e => e)
theorem ElOk.mono {W : World} {N N' ga : Nat} {Es : List Ent} (h : ElOk W N' ga Es) (hn : N ≤ N') : ElOk W N ga Es :=
  ⟨h.eb, fun i hi => ⟨(h.ok i hi).1.mono hn, (h.ok i hi).2.mono hn⟩, h.sep, Nat.le_trans hn h.gN⟩

/-- What Read's closure does. -/
def R1Post (w : World) (zs : List Int) (gl : Nat) (e : Ending) (w' : World) : Prop :=
  Upd (fun i => i = gl) w w' ∧ (((bRes zs).2.1 = 0 ∧ ∃ v ga Es, e = .returned v ∧ One w' gl 26 (.slice (some ⟨ga, 0, none⟩) Es.length Es.length) ∧ ElOk w' w.heap.size ga Es ∧ kvs Es = (bRes zs).1) ∨ ((bRes zs).2.1 ≠ 0 ∧ e = fallen (bRes zs).2.1 ((bRes zs).2.2 : Nat) ∧ One w' gl 26 (.slice none 0 0)))

set_option maxRecDepth 100000 in
set_option maxHeartbeats 800000 in
theorem read1_any (a : Option Addr) (l c gb gl : Nat) (zs : List Int) (w : World) (hl : zs.length = l) (hm : l ≤ 140737488400000) (hcl : l ≤ c) (na : a = none → l = 0 ∧ c = 0) (hr : Row w .u8 a zs) (z8 : B8 zs) (h1 : One w gb 23 (.slice a l c)) (h2 : One w gl 26 (.slice none 0 0)) :
    Calls Try.prog 36 #[.pointer (some ⟨gb, 0, none⟩), .pointer (some ⟨gl, 0, none⟩)] w (R1Post w zs gl) := by
  have c1 := h1.cell
  have HRW := hide (readWhole_any a l c zs w hl hm hcl na hr z8)
  have hgl : gl < w.heap.size := lt_of_block h2
  have H2 := hide h2
  clear h1 h2 hr na
  go_enter Try.func36, Try.ntmps36
  go_wp2_with fail
  refine HRW.out.mono ?_
  rintro e w1 ⟨hb, ⟨h0, ga, Es, rfl, hE, hkv⟩ | ⟨h0, rfl⟩⟩
  · have hO : One w1 gl 26 (.slice none 0 0) := (hb.block gl hgl).trans H2.out
    have c2 := hO.cell
    have f2 := hO.fr
    have hu : Upd (fun i => i = gl) w1 (w1.setCell ⟨gl, 0, none⟩ (.slice (some ⟨ga, 0, none⟩) Es.length Es.length)) := set_upd _ gl 0 _
    have HF : Hid (∀ v, R1Post w zs gl (.returned v) (w1.setCell ⟨gl, 0, none⟩ (.slice (some ⟨ga, 0, none⟩) Es.length Es.length))) := fun v => ⟨(Upd.of_below hb _).trans hu, .inl ⟨h0, v, ga, Es, rfl, block_setCell hO 0 _, hE.upd hu (fun i hi _ e => by have e' : i = gl := e; omega), hkv⟩⟩
    clear hO hu hE hkv hb
    generalize Es.length = n at *
    go_wp2_with fail
    go_end0
    exact HF.out _
  · exact ⟨rfl, Upd.of_below hb _, .inr ⟨h0, rfl, (hb.block gl hgl).trans H2.out⟩⟩

/-- What Read tells. -/
def RdB (w : World) (zs : List Int) (e : Ending) (w' : World) : Prop :=
  Below w.heap.size w w' ∧ (((bRes zs).2.1 = 0 ∧ ∃ ga Es, e = .returned (.tuple #[.slice (some ⟨ga, 0, none⟩) Es.length Es.length, .int .i64 0, .int .i64 0]) ∧ ElOk w' w.heap.size ga Es ∧ kvs Es = (bRes zs).1) ∨ ((bRes zs).2.1 ≠ 0 ∧ e = .returned (.tuple #[.slice none 0 0, .int .i64 (bRes zs).2.1, .int .i64 ((bRes zs).2.2 : Nat)])))

set_option maxRecDepth 100000 in
set_option maxHeartbeats 800000 in
theorem bread_any (a : Option Addr) (l c : Nat) (zs : List Int) (w : World) (hl : zs.length = l) (hm : l ≤ 140737488400000) (hcl : l ≤ c) (na : a = none → l = 0 ∧ c = 0) (hr : Row w .u8 a zs) (z8 : B8 zs) :
    Calls Try.prog 12 #[.slice a l c] w (RdB w zs) := by
  have hmf : ∀ (fn : Fn) (first cap : Array Value) (w : World), (Instr.makeFunc fn first cap).run Try.prog w = .ok (.func fn first cap) w := fun _ _ _ _ => rfl
  obtain ⟨w2, hw2⟩ : ∃ w2, w2 = (w.alloc (.cells #[.slice a l c] 23)).alloc (.cells #[.slice none 0 0] 26) := ⟨_, rfl⟩
  have hb2 : Below w.heap.size w w2 := by rw [hw2]; exact ((Below.refl _ _).alloc (Nat.le_refl _) _).alloc (by simp) _
  have hs2 : w2.heap.size = w.heap.size + 2 := by rw [hw2]; simp
  have hO1 : One w2 w.heap.size 23 (.slice a l c) := by rw [hw2]; exact (Below.heap_alloc _ _ _ (by simp)).trans (heap_alloc_new w _)
  have hO2 : One w2 (w.heap.size + 1) 26 (.slice none 0 0) := by
    have := heap_alloc_new (w.alloc (.cells #[.slice a l c] 23)) (.cells #[.slice none 0 0] 26)
    rw [World.size_alloc] at this
    rw [hw2]; exact this
  have hb3 : Below w2.heap.size w2 (w2.alloc (.cells #[.int .i64 0, .int .i64 0] 69)) := (Below.refl _ _).alloc (Nat.le_refl _) _
  have HT := hide (tried_any 36 #[.pointer (some ⟨w.heap.size, 0, none⟩), .pointer (some ⟨w.heap.size + 1, 0, none⟩)] w2
    (fun w' => Upd (fun i => i = w.heap.size + 1) (w2.alloc (.cells #[.int .i64 0, .int .i64 0] 69)) w' ∧ (bRes zs).2.1 = 0 ∧ ∃ ga Es, One w' (w.heap.size + 1) 26 (.slice (some ⟨ga, 0, none⟩) Es.length Es.length) ∧ ElOk w' (w2.heap.size + 1) ga Es ∧ kvs Es = (bRes zs).1)
    (fun er p w' => Upd (fun i => i = w.heap.size + 1) (w2.alloc (.cells #[.int .i64 0, .int .i64 0] 69)) w' ∧ (bRes zs).2.1 ≠ 0 ∧ er = (bRes zs).2.1 ∧ p = ((bRes zs).2.2 : Nat) ∧ One w' (w.heap.size + 1) 26 (.slice none 0 0))
    (fun _ _ => rfl) (by
      refine (read1_any a l c w.heap.size (w.heap.size + 1) zs _ hl hm hcl na ((hr.below2 hb2).below2 hb3) z8 ((hb3.block _ (by omega)).trans hO1) ((hb3.block _ (by omega)).trans hO2)).mono ?_
      rintro e w' ⟨hu, hcase⟩
      have hbk : w'.heap[w2.heap.size]? = some (.cells #[.int .i64 0, .int .i64 0] 69 (0, 0)) := hu.heap (heap_alloc_new w2 _) (fun e => by omega)
      rcases hcase with ⟨h0, v, ga, Es, rfl, h1, h2, h3⟩ | ⟨h0, rfl, h1⟩
      · exact ⟨.inl ⟨v, rfl, hu, h0, ga, Es, h1, by rw [World.size_alloc] at h2; exact h2, h3⟩, hbk⟩
      · exact ⟨.inr ⟨_, _, rfl, hu, h0, rfl, rfl, h1⟩, hbk⟩))
  have B2 := hide hb2
  have B3 := hide hb3
  have S2 := hide hs2
  clear hr na hb2 hO1 hO2 hs2 hb3
  go_enter Try.func12, Try.ntmps12
  go_wp2_with fail
  rw [← hw2]
  replace hw2 := hide hw2
  refine HT.out.mono ?_
  rintro e w5 (⟨rfl, w4, ⟨hu4, h0, ga, Es, hO, hE, hkv⟩, hlt, hu5⟩ | ⟨er, p, w4, rfl, ⟨hu4, h0, rfl, rfl, hO⟩, hlt, hu5⟩)
  · have hs2 := S2.out
    have hO5 : One w5 (w.heap.size + 1) 26 (.slice (some ⟨ga, 0, none⟩) Es.length Es.length) := hu5.heap hO (fun e => by omega)
    have hE5 : ElOk w5 (w2.heap.size + 1) ga Es := hE.upd hu5 (fun i hi _ e => by omega)
    have hB5 : Below w.heap.size w w5 := (B2.out.trans (B3.out.mono B2.out.size)).trans (((hu4.below (by simp; omega) (fun i hi e => by omega))).trans (hu5.below (Nat.le_trans (show w.heap.size ≤ _ by simp; omega) hu4.size) (fun i hi e => by omega)))
    have hlt5 : w.heap.size + 1 < w5.heap.size := lt_of_block hO5
    have hE6 : ElOk (w5.alloc (.cells #[.int .i64 0, .int .i64 0] 69)) (w2.heap.size + 1) ga Es := hE5.below ((Below.refl _ _).alloc (Nat.le_refl _) _)
    have c5 := One.cell (W := w5.alloc (.cells #[.int .i64 0, .int .i64 0] 69)) (g := w.heap.size + 1) (t := 26) ((Below.heap_alloc w5 (.cells #[.int .i64 0, .int .i64 0] 69) _ hlt5).trans hO5)
    have HF : Hid (∀ m, RdB w zs (.returned (.tuple #[.slice (some ⟨ga, 0, none⟩) Es.length Es.length, .int .i64 0, .int .i64 0])) ((w5.alloc (.cells #[.int .i64 0, .int .i64 0] 69)).drewN m)) := fun m => ⟨below_of_drewN (hB5.alloc hB5.size _) m, .inl ⟨h0, ga, Es, rfl, (hE6.mono (by omega)).below (below_of_drewN (Below.refl _ _) m), hkv⟩⟩
    have y := two_new2 w5 (.int .i64 0) (.int .i64 0) 69
    have y0 := y.1
    have y1 := y.2
    generalize Es.length = n at *
    clear y hE6 hE5 hO5 hB5 hkv hE hO hu4 hu5 HT
    go_wp2_with fail
    go_quiet (fail)
    go_wp2_with fail
    go_ret3
    exact HF.out _
  · have hs2 := S2.out
    have hO5 : One w5 (w.heap.size + 1) 26 (.slice none 0 0) := hu5.heap hO (fun e => by omega)
    have hB5 : Below w.heap.size w w5 := (B2.out.trans (B3.out.mono B2.out.size)).trans (((hu4.below (by simp; omega) (fun i hi e => by omega))).trans (hu5.below (Nat.le_trans (show w.heap.size ≤ _ by simp; omega) hu4.size) (fun i hi e => by omega)))
    have hlt5 : w.heap.size + 1 < w5.heap.size := lt_of_block hO5
    have HF : Hid (∀ m, RdB w zs (.returned (.tuple #[.slice none 0 0, .int .i64 (bRes zs).2.1, .int .i64 ((bRes zs).2.2 : Nat)])) ((w5.alloc (.cells #[.int .i64 (bRes zs).2.1, .int .i64 ((bRes zs).2.2 : Nat)] 69)).drewN m)) := fun m => ⟨below_of_drewN (hB5.alloc hB5.size _) m, .inr ⟨h0, rfl⟩⟩
    generalize (bRes zs).2.1 = er at *
    generalize (bRes zs).2.2 = p at *
    have c5 := One.cell (W := w5.alloc (.cells #[.int .i64 er, .int .i64 (p : Int)] 69)) (g := w.heap.size + 1) (t := 26) ((Below.heap_alloc w5 (.cells #[.int .i64 er, .int .i64 (p : Int)] 69) _ hlt5).trans hO5)
    have y := two_new2 w5 (.int .i64 er) (.int .i64 (p : Int)) 69
    have y0 := y.1
    have y1 := y.2
    clear y hO5 hB5 hO hu4 hu5 HT
    go_wp2_with fail
    go_quiet (fail)
    go_wp2_with fail
    go_ret3
    exact HF.out _

end Go.Proofs.Ythloaabdlciefaa

namespace Go.Proofs.Ythloaabdlciefaa
open Go.RowKit

/-- start, tried: the walker's box. -/
def A1Post (w : World) (a : Option Addr) (l c : Nat) (zs : List Int) (gw : Nat) (e : Ending) (w' : World) : Prop :=
  Upd (fun i => i = gw) w w' ∧ ((stE zs = 0 ∧ ∃ v g, e = .returned v ∧ w.heap.size ≤ g ∧ One w' gw 72 (.pointer (some ⟨g, 0, none⟩)) ∧ WkR w' w.heap.size g a l c (nx zs 0) (nm zs 0) 0 [] (.slice none 0 0)) ∨ (stE zs ≠ 0 ∧ e = fallen (stE zs) (stP zs : Nat)))
set_option maxRecDepth 100000 in
set_option maxHeartbeats 800000 in
theorem all11_any (a : Option Addr) (l c gb gw : Nat) (zs : List Int) (w : World) (hl : zs.length = l) (hm : l ≤ 140737488351232) (hr : Row w .u8 a zs) (z8 : B8 zs) (h1 : One w gb 23 (.slice a l c)) (h2 : One w gw 72 (.pointer none)) :
    Calls Try.prog 51 #[.pointer (some ⟨gb, 0, none⟩), .pointer (some ⟨gw, 0, none⟩)] w (A1Post w a l c zs gw) := by
  have c1 := h1.cell
  have HST := hide (start_any a l c zs w hl (by omega) hr z8)
  have hgw : gw < w.heap.size := lt_of_block h2
  have H2 := hide h2
  clear h1 h2 hr
  go_enter Try.func51, Try.ntmps51
  go_wp2_with fail
  refine HST.out.mono ?_
  rintro e w1 ⟨hb, ⟨h0, g, hg, rfl, wk⟩ | ⟨h0, rfl⟩⟩
  · have hO : One w1 gw 72 (.pointer none) := (hb.block gw hgw).trans H2.out
    have c2 := hO.cell
    have f2 := hO.fr
    have hu : Upd (fun i => i = gw) w1 (w1.setCell ⟨gw, 0, none⟩ (.pointer (some ⟨g, 0, none⟩))) := set_upd _ gw 0 _
    have HF : Hid (∀ v, A1Post w a l c zs gw (.returned v) (w1.setCell ⟨gw, 0, none⟩ (.pointer (some ⟨g, 0, none⟩)))) := fun v => ⟨(Upd.of_below hb _).trans hu, .inl ⟨h0, v, g, rfl, hg, block_setCell hO 0 _, wk.upd hu (fun i hi e => by
      rcases hi with h3 | h3
      · omega
      · cases h3)⟩⟩
    clear hO hu hb wk
    go_wp2_with fail
    go_end0
    exact HF.out _
  · exact ⟨rfl, Upd.of_below hb _, .inr ⟨h0, rfl⟩⟩

/-- An entry, tried: the entry's box. -/
def A2Post (W : World) (B g : Nat) (a : Option Addr) (l c p n num : Nat) (ls zs pv : List Int) (M : Nat → Prop) (ge : Nat) (e : Ending) (w' : World) : Prop :=
  (eE pv ls zs p = 0 ∧ ∃ v ka kc va vc N vn, e = .returned v ∧ E2 w' ge (.slice ka (xKy pv zs p).length kc) (.slice va (xVl pv zs p).length vc) ∧ OwnB w' W.heap.size 5 (.slice ka (xKy pv zs p).length kc) (xKy pv zs p) ∧ OwnB w' N 5 (.slice va (xVl pv zs p).length vc) (xVl pv zs p) ∧ W.heap.size ≤ N ∧ (∀ i, (Value.slice ka (xKy pv zs p).length kc).ownBlock = some i → i < N) ∧
    WkR w' B g a l c (xPl pv zs p) n (num + 1) (xKy pv zs p) vn ∧ Upd (fun i => M i ∨ i = ge) W w' ∧ (∀ i, WkM g vn i → M i ∨ W.heap.size ≤ i) ∧ ∀ i, WkM g vn i → (Value.slice ka (xKy pv zs p).length kc).ownBlock ≠ some i ∧ (Value.slice va (xVl pv zs p).length vc).ownBlock ≠ some i) ∨
  (eE pv ls zs p ≠ 0 ∧ e = fallen (eE pv ls zs p) (eP pv zs p : Nat) ∧ Below W.heap.size W w')
set_option maxRecDepth 100000 in
set_option maxHeartbeats 800000 in
theorem all12_any {W : World} {B g gw ge : Nat} {a : Option Addr} {l c p n num : Nat} {ls zs : List Int} {va : Value} (h : WkR W B g a l c p n num ls va) (hl : zs.length = l) (hm : l ≤ 140737488351232) (hcl : l ≤ c) (na : a = none → l = 0 ∧ c = 0) (hr : Row W .u8 a zs) (hra : ∀ x, a = some x → 0 < l → ¬ WkM g va x.block) (z8 : B8 zs) (l8 : B8 ls) (hls : ls.length ≤ 64) (hnum : num ≤ 1000000)
    (h1 : One W gw 72 (.pointer (some ⟨g, 0, none⟩))) (x y : Value) (h2 : E2 W ge x y) (hge : ¬ WkM g va ge) :
    Calls Try.prog 53 #[.pointer (some ⟨gw, 0, none⟩), .pointer (some ⟨ge, 0, none⟩)] W (A2Post W B g a l c p n num ls zs (if num % 8 = 0 then [] else ls) (WkM g va) ge) := by
  have c1 := h1.cell
  have HEN := hide (entry_any h hl (by omega) hcl na hr hra z8 l8 hls hnum)
  generalize (if num % 8 = 0 then [] else ls) = pv at *
  have hgl : ge < W.heap.size := lt_of_block h2
  have H2 := hide h2
  generalize hM : WkM g va = M at *
  replace hM := hide hM
  clear h h1 h2 hr hra na
  go_enter Try.func53, Try.ntmps53
  go_wp2_with fail
  refine HEN.out.mono ?_
  rintro e w1 (⟨h0, ⟨ka, kc, va', vc, N, vn, rfl, ok, ov, hN, hkN, wk, hu, hf, hsep⟩⟩ | ⟨h0, rfl, hb⟩)
  · have hE : E2 w1 ge x y := hu.heap H2.out hge
    obtain ⟨q0, q1⟩ := hE.cells
    have f0 := hE.fr 0
    have f1 := hE.fr 1
    have HF : Hid (∀ v, A2Post W B g a l c p n num ls zs pv M ge (.returned v) ((w1.setCell ⟨ge, 0, none⟩ (.slice ka (xKy pv zs p).length kc)).setCell ⟨ge, 1, none⟩ (.slice va' (xVl pv zs p).length vc))) := fun v => by
      have u2 : Upd (fun i => i = ge) w1 ((w1.setCell ⟨ge, 0, none⟩ (.slice ka (xKy pv zs p).length kc)).setCell ⟨ge, 1, none⟩ (.slice va' (xVl pv zs p).length vc)) := (set_upd _ ge 0 _).trans (set_upd _ ge 1 _)
      refine .inl ⟨h0, v, ka, kc, va', vc, N, vn, rfl, block_setCell (block_setCell hE 0 _) 1 _, ok.upd u2 (fun k hk e => by have := (ok.owns.lt k hk).1; omega), ov.upd u2 (fun k hk e => by have := (ov.owns.lt k hk).1; omega), hN, hkN, wk.upd u2 (fun i hi e => ?_), (hu.mono (fun i _ e => .inl e)).trans (u2.mono (fun i _ e => .inr e)), hf, hsep⟩
      rcases hf i hi with h3 | h3
      · have e' : i = ge := e
        rw [e'] at h3
        exact hge h3
      · have e' : i = ge := e
        omega
    generalize (xKy pv zs p).length = nK at *
    generalize (xVl pv zs p).length = nV at *
    clear hE ok ov wk hu hf hsep
    go_wp2_with fail
    go_end0
    exact HF.out _
  · exact ⟨rfl, .inr ⟨h0, rfl, hb⟩⟩

/-- start by tried. -/
def T1Post (w : World) (a : Option Addr) (l c : Nat) (zs : List Int) (gw : Nat) (e : Ending) (w' : World) : Prop :=
  Upd (fun i => i = gw) w w' ∧ ((stE zs = 0 ∧ e = .returned (.agg #[.int .i64 0, .int .i64 0]) ∧ ∃ g, w.heap.size < g ∧ One w' gw 72 (.pointer (some ⟨g, 0, none⟩)) ∧ WkR w' (w.heap.size + 1) g a l c (nx zs 0) (nm zs 0) 0 [] (.slice none 0 0)) ∨ (stE zs ≠ 0 ∧ ∃ er q, er ≠ 0 ∧ e = .returned (.agg #[.int .i64 er, .int .i64 q])))
theorem tstart_any (a : Option Addr) (l c gb gw : Nat) (zs : List Int) (w : World) (hl : zs.length = l) (hm : l ≤ 140737488351232) (hr : Row w .u8 a zs) (z8 : B8 zs) (h1 : One w gb 23 (.slice a l c)) (h2 : One w gw 72 (.pointer none)) :
    Calls Try.prog 35 #[.func (.func 51) #[] #[.pointer (some ⟨gb, 0, none⟩), .pointer (some ⟨gw, 0, none⟩)]] w (T1Post w a l c zs gw) := by
  have hb5 : Below w.heap.size w (w.alloc (.cells #[.int .i64 0, .int .i64 0] 69)) := (Below.refl _ _).alloc (Nat.le_refl _) _
  have hgb : gb < w.heap.size := lt_of_block h1
  have hgw : gw < w.heap.size := lt_of_block h2
  refine (tried_any 51 #[.pointer (some ⟨gb, 0, none⟩), .pointer (some ⟨gw, 0, none⟩)] w
    (fun w' => Upd (fun i => i = gw) (w.alloc (.cells #[.int .i64 0, .int .i64 0] 69)) w' ∧ stE zs = 0 ∧ ∃ g, w.heap.size + 1 ≤ g ∧ One w' gw 72 (.pointer (some ⟨g, 0, none⟩)) ∧ WkR w' (w.heap.size + 1) g a l c (nx zs 0) (nm zs 0) 0 [] (.slice none 0 0))
    (fun er _ w' => Upd (fun i => i = gw) (w.alloc (.cells #[.int .i64 0, .int .i64 0] 69)) w' ∧ stE zs ≠ 0 ∧ er = stE zs)
    (fun _ _ => rfl) (by
      refine (all11_any a l c gb gw zs _ hl hm (hr.below2 hb5) z8 ((hb5.block _ hgb).trans h1) ((hb5.block _ hgw).trans h2)).mono ?_
      rintro e w' ⟨hu, hcase⟩
      have hbk : w'.heap[w.heap.size]? = some (.cells #[.int .i64 0, .int .i64 0] 69 (0, 0)) := hu.heap (heap_alloc_new w _) (fun e => by omega)
      rw [World.size_alloc] at hcase
      rcases hcase with ⟨h0, v, g, rfl, h3, h4, h5⟩ | ⟨h0, rfl⟩
      · exact ⟨.inl ⟨v, rfl, hu, h0, g, h3, h4, h5⟩, hbk⟩
      · exact ⟨.inr ⟨_, _, rfl, hu, h0, rfl⟩, hbk⟩)).mono ?_
  rintro e w6 (⟨rfl, w5, ⟨hu4, h0, g, hg, o3, wk⟩, hlt, hu5⟩ | ⟨er, q, w5, rfl, ⟨hu4, h0, rfl⟩, hlt, hu5⟩)
  · refine ⟨((Upd.of_below hb5 _).trans hu4).then hu5 (fun i hi e => by omega), .inl ⟨h0, rfl, g, by omega, hu5.heap o3 (fun e => by omega), wk.upd hu5 (fun i hi e => ?_)⟩⟩
    rcases hi with h3 | h3
    · omega
    · cases h3
  · exact ⟨((Upd.of_below hb5 _).trans hu4).then hu5 (fun i hi e => by omega), .inr ⟨h0, _, q, h0, rfl⟩⟩

/-- An entry by tried. -/
def T2Post (W : World) (B g : Nat) (a : Option Addr) (l c p n num : Nat) (ls zs pv : List Int) (M : Nat → Prop) (ge : Nat) (e : Ending) (w' : World) : Prop :=
  Upd (fun i => M i ∨ i = ge) W w' ∧ ((eE pv ls zs p = 0 ∧ e = .returned (.agg #[.int .i64 0, .int .i64 0]) ∧ ∃ ka kc va vc N vn, E2 w' ge (.slice ka (xKy pv zs p).length kc) (.slice va (xVl pv zs p).length vc) ∧ OwnB w' (W.heap.size + 1) 5 (.slice ka (xKy pv zs p).length kc) (xKy pv zs p) ∧ OwnB w' N 5 (.slice va (xVl pv zs p).length vc) (xVl pv zs p) ∧ W.heap.size + 1 ≤ N ∧ (∀ i, (Value.slice ka (xKy pv zs p).length kc).ownBlock = some i → i < N) ∧
    WkR w' B g a l c (xPl pv zs p) n (num + 1) (xKy pv zs p) vn ∧ (∀ i, WkM g vn i → M i ∨ W.heap.size < i) ∧ ∀ i, WkM g vn i → (Value.slice ka (xKy pv zs p).length kc).ownBlock ≠ some i ∧ (Value.slice va (xVl pv zs p).length vc).ownBlock ≠ some i) ∨
  (eE pv ls zs p ≠ 0 ∧ ∃ er q, er ≠ 0 ∧ e = .returned (.agg #[.int .i64 er, .int .i64 q])))
theorem tentry_any {W : World} {B g gw ge : Nat} {a : Option Addr} {l c p n num : Nat} {ls zs : List Int} {va : Value} (h : WkR W B g a l c p n num ls va) (hl : zs.length = l) (hm : l ≤ 140737488351232) (hcl : l ≤ c) (na : a = none → l = 0 ∧ c = 0) (hr : Row W .u8 a zs) (hra : ∀ x, a = some x → 0 < l → ¬ WkM g va x.block) (z8 : B8 zs) (l8 : B8 ls) (hls : ls.length ≤ 64) (hnum : num ≤ 1000000)
    (h1 : One W gw 72 (.pointer (some ⟨g, 0, none⟩))) (x y : Value) (h2 : E2 W ge x y) (hge : ¬ WkM g va ge) :
    Calls Try.prog 35 #[.func (.func 53) #[] #[.pointer (some ⟨gw, 0, none⟩), .pointer (some ⟨ge, 0, none⟩)]] W (T2Post W B g a l c p n num ls zs (if num % 8 = 0 then [] else ls) (WkM g va) ge) := by
  have hb5 : Below W.heap.size W (W.alloc (.cells #[.int .i64 0, .int .i64 0] 69)) := (Below.refl _ _).alloc (Nat.le_refl _) _
  have hgw : gw < W.heap.size := lt_of_block h1
  have hgel : ge < W.heap.size := lt_of_block h2
  have hlt' : ∀ i, WkM g va i → i < W.heap.size := fun i hi => (h.lt i hi).2
  have HC := all12_any (gw := gw) (ge := ge) (h.upd (Upd.of_below hb5 Noth) (fun _ _ e => e)) hl hm hcl na (hr.below2 hb5) hra z8 l8 hls hnum ((hb5.block _ hgw).trans h1) x y ((hb5.block _ hgel).trans h2) hge
  generalize (if num % 8 = 0 then [] else ls) = pv at *
  refine (tried_any 53 #[.pointer (some ⟨gw, 0, none⟩), .pointer (some ⟨ge, 0, none⟩)] W
    (fun w' => ∃ v, A2Post (W.alloc (.cells #[.int .i64 0, .int .i64 0] 69)) B g a l c p n num ls zs pv (WkM g va) ge (.returned v) w')
    (fun er _ w' => eE pv ls zs p ≠ 0 ∧ er = eE pv ls zs p ∧ Below (W.alloc (.cells #[.int .i64 0, .int .i64 0] 69)).heap.size (W.alloc (.cells #[.int .i64 0, .int .i64 0] 69)) w')
    (fun _ _ => rfl) (by
      refine HC.mono ?_
      intro e w' hpost
      rcases hpost with ⟨h0, v, ka, kc, va', vc, N, vn, rfl, r1, r2, r3, r4, r5, r6, r7, r8, r9⟩ | ⟨h0, rfl, hb⟩
      · refine ⟨.inl ⟨v, rfl, v, .inl ⟨h0, v, ka, kc, va', vc, N, vn, rfl, r1, r2, r3, r4, r5, r6, r7, r8, r9⟩⟩, r7.heap (heap_alloc_new W _) (fun e => ?_)⟩
        rcases e with e | e
        · have := hlt' _ e; omega
        · omega
      · exact ⟨.inr ⟨_, _, rfl, h0, rfl, hb⟩, (hb.block _ (by simp)).trans (heap_alloc_new W _)⟩)).mono ?_
  rintro e w6 (⟨rfl, w5, ⟨v, hpost⟩, hlt, hu5⟩ | ⟨er, q, w5, rfl, ⟨h0, rfl, hb⟩, hlt, hu5⟩)
  · rcases hpost with ⟨h0, v', ka, kc, va', vc, N, vn, _, r1, r2, r3, r4, r5, r6, r7, r8, r9⟩ | ⟨_, h9, _⟩
    · rw [World.size_alloc] at r2 r4 r8
      refine ⟨((Upd.of_below hb5 _).trans r7).then hu5 (fun i hi e => by omega), .inl ⟨h0, rfl, ka, kc, va', vc, N, vn, hu5.heap r1 (by omega), r2.upd hu5 (fun k hk e => by have := (r2.owns.lt k hk).1; omega), r3.upd hu5 (fun k hk e => by have := (r3.owns.lt k hk).1; omega), r4, r5, r6.upd hu5 (fun i hi e => ?_), fun i hi => (r8 i hi).imp id (fun e => by omega), r9⟩⟩
      rcases r8 i hi with h3 | h3
      · have := hlt' i h3; omega
      · omega
    · cases h9
  · exact ⟨((Upd.of_below hb5 _).trans (Upd.of_below hb _)).then hu5 (fun i hi e => by omega), .inr ⟨h0, _, q, h0, rfl⟩⟩

end Go.Proofs.Ythloaabdlciefaa
