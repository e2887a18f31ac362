/- foot: Read, the walk. -/
import Derived.Test.YtlachimmfjagbaaFRd
import Derived.Test.YtlachimmfjagbaaFTotal
namespace Go.Proofs.Ytlachimmfjagbaa
open Go.RowKit

theorem ky_b8 {zs : List Int} (h : B8 zs) (p : Nat) : B8 (ky zs p) := fun u hu => by unfold ky at hu; exact h u (List.mem_of_mem_drop (List.mem_of_mem_take hu))
theorem rdG_step (zs : List Int) (f p : Nat) (l : List FRow) : rdG zs (f + 1) p l = if (rowR (kAt l l.length) (pAt l l.length).toNat zs p).1 ≠ 0 then ([], (rowR (kAt l l.length) (pAt l l.length).toNat zs p).1, (rowR (kAt l l.length) (pAt l l.length).toNat zs p).2) else rdG zs f (rowR (kAt l l.length) (pAt l l.length).toNat zs p).2 (l ++ [rowV zs p]) := rfl
theorem rdG_end (zs : List Int) (p : Nat) (l : List FRow) : rdG zs 0 p l = if (enR zs p (totN l l.length)).1 ≠ 0 then ([], (enR zs p (totN l l.length)).1, (enR zs p (totN l l.length)).2) else (l, 0, 0) := rfl

set_option maxRecDepth 100000 in
set_option maxHeartbeats 3200000 in
theorem fread_any (a : Option Addr) (l c : Nat) (zs : List Int) (w : World) (hl : zs.length = l) (hm : l ≤ 140739000000000) (hlc : l ≤ c) (hna : a = none → l = 0 ∧ c = 0) (hr : Row w .u8 a zs) (z8 : B8 zs) :
    Calls Try.prog 12 #[.slice a l c] w (FRdPost w zs) := by
  have HRO := hide (fun W (h : Below w.heap.size w W) => hr.below2 h)
  have HV := hide (vread_at a l c 0 zs w hl hm hr z8 (Nat.zero_le _))
  obtain ⟨_, _, _, hq1, _, hq3⟩ := rd_at zs 0 z8 (Nat.zero_le _)
  have HRD : Hid (rdF zs = if er zs 0 ≠ 0 then ([], er zs 0, nx zs 0) else if 8388608 < nm zs 0 then ([], 71, 0) else rdG zs (nm zs 0) (nx zs 0) []) := rfl
  have HERR := hide (fun (w' : World) (E : Int) (Q : Nat) (h : rdF zs = ([], E, Q)) (hb : Below w.heap.size w w') => rd_err h hb)
  obtain ⟨N, hN⟩ : ∃ N, nm zs 0 = N := ⟨_, rfl⟩
  obtain ⟨Q, hQ⟩ : ∃ Q, nx zs 0 = Q := ⟨_, rfl⟩
  obtain ⟨E, hE⟩ : ∃ E, er zs 0 = E := ⟨_, rfl⟩
  rw [hN, hQ, hE] at HV HRD
  rw [hN] at hq3
  rw [hQ] at hq1
  clear hr hN hQ hE
  go_enter Try.func12, Try.ntmps12
  go_wp2_with fail
  refine HV.out.mono ?_
  rintro e w1 ⟨rfl, b1⟩
  have B1 := hide b1
  clear b1 HV
  by_cases he : E = 0
  · subst he
    replace HRD : Hid (rdF zs = if 8388608 < N then ([], 71, 0) else rdG zs N Q []) := by show rdF zs = _; rw [HRD.out, if_neg (by simp)]
    by_cases hbig : 8388608 < N
    · have e1 : (8388608 : Int) < (N : Int) := by omega
      have HF := hide (HERR.out w1 71 0 (by rw [HRD.out, if_pos hbig]) B1.out)
      go_wp2_with fail
      go_ret3
      exact HF.out
    · have e1 : ¬ (8388608 : Int) < (N : Int) := by omega
      replace HRD : Hid (rdF zs = rdG zs N Q []) := by show rdF zs = _; rw [HRD.out, if_neg hbig]
      go_wp2_with fail
      refine (rules_any w1).mono ?_
      rintro e w2 ⟨rfl, t2, b2⟩
      have T2 := hide t2
      have B2 : Hid (Below w.heap.size w w2) := B1.out.trans (b2.mono B1.out.size)
      have hgt : w1.heap.size + 2 < w2.heap.size := lt_of_block t2.t
      generalize w1.heap.size + 2 = gt at *
      have hg3 : w1.heap.size + 1 < w2.heap.size := World.block_lt_of_cell? w2 ⟨w1.heap.size + 1, 0, none⟩ t2.b3
      have hg2 : w1.heap.size < w2.heap.size := by omega
      generalize w1.heap.size + 1 = g3 at *
      generalize w1.heap.size = g2 at *
      clear t2 b2
      go_wp2_with fail
      refine (head_any w2).mono ?_
      rintro e w3 ⟨rfl, b3⟩
      have B3 := hide b3
      have hz3 := b3.size
      clear b3
      obtain ⟨w4, hw4⟩ : ∃ w4, w4 = w3.alloc (.cells #[.slice none 0 0, .int .i64 0, .int .i64 8, .int .i64 0] 33) := ⟨_, rfl⟩
      have b4 : Below w3.heap.size w3 w4 := by rw [hw4]; exact (Below.refl _ _).alloc (Nat.le_refl _) _
      have hb4 : w4.heap[w3.heap.size]? = some (.cells #[.slice none 0 0, .int .i64 0, .int .i64 8, .int .i64 0] 33 (0, 0)) := by rw [hw4]; exact heap_alloc_new w3 _
      have B4 : Hid (Below w.heap.size w w4) := B2.out.trans ((B3.out.mono B2.out.size).trans (b4.mono (by have := B2.out.size; omega)))
      have T4 := hide ((T2.out.below B3.out).below b4)
      obtain ⟨g, hg⟩ : ∃ g, g = w3.heap.size := ⟨_, rfl⟩
      have H0 : Hid (RdI w4 w4 g gt g2 g3 zs (.slice none 0 0) [] N Q) := ⟨Upd.refl _ _, ⟨none, 0, 0, 0, 8, 0, [], ⟨by rw [hg]; exact hb4, row_nil _ _ _, rfl, fun _ h => by simp at h⟩, rfl, rfl⟩, RdL.nil _ _, HRD.out⟩
      have hgw : w.heap.size ≤ g ∧ gt ≠ g ∧ g2 ≠ g ∧ g3 ≠ g := by have := B2.out.size; omega
      have hg4 : g < w4.heap.size := by rw [hg]; exact lt_of_block hb4
      clear hb4 b4
      go_wp2_with fail
      rw [← hg, ← hw4]
      clear hg hw4 hz3 hgt hg2 hg3 T2
      go_loopw [6, 9, 31] (fun y6 y9 x wr => ∃ (i p : Nat) (v : Value) (C : List Spn), i ≤ N ∧ p ≤ l ∧ C.length = i ∧ x = .int .u64 (i : Int) ∧ y6 = .int .i64 (p : Int) ∧ y9 = v ∧ Hid (RdI w4 wr g gt g2 g3 zs v C (N - i) p)) (fun _ _ x _ => N - (intOf x).toNat)
      case atStart => exact ⟨0, Q, _, [], Nat.zero_le _, by omega, rfl, rfl, rfl, rfl, H0⟩
      case round =>
        clear H0 HRD
        obtain ⟨i, p, v, C, hi, hp, hCi, rfl, rfl, rfl, HI⟩ := hrel
        rename World => wr
        have BW : Hid (Below w.heap.size w wr) := B4.out.trans (HI.out.up.below B4.out.size (fun k hk e => by omega))
        by_cases hlt : i < N
        · have j1 : (i : Int) < (N : Int) := by omega
          obtain ⟨aa, la, ca, p', q', z, pk, A, hpk, hpq⟩ := HI.out.ah
          have hpb := HI.out.li.gd.pos
          have hCn := HI.out.li.n
          have AH := hide A
          obtain ⟨c0, c1, c2, c3, _⟩ := A.cells
          have hgl : g < wr.heap.size := lt_of_block A.b
          have HTR := hide (T4.out.upd HI.out.up hgw.2.1 hgw.2.2.1 hgw.2.2.2)
          have HRR := hide (readrow_any HTR.out aa la ca p' q' z pk a l c p zs A.l A.r A.k8 (by omega) (by omega) hl hm hlc hna (HRO.out wr BW.out) z8 hp)
          have HST : Hid (rdF zs = if (rowR pk (p' + q') zs p).1 ≠ 0 then ([], (rowR pk (p' + q') zs p).1, (rowR pk (p' + q') zs p).2) else rdG zs (N - (i + 1)) (rowR pk (p' + q') zs p).2 (rws C ++ [rowV zs p])) := by
            have e1 : N - i = (N - (i + 1)) + 1 := by omega
            have e2 : pk = kAt (rws C) (rws C).length := by rw [rws_len]; exact hpk
            have e3 : p' + q' = (pAt (rws C) (rws C).length).toNat := by rw [rws_len, ← hpq]; exact (Int.toNat_natCast _).symm
            show rdF zs = _
            rw [HI.out.rd, e1, rdG_step, ← e2, ← e3]
          have HRP := hide (fun (h : (rowR pk (p' + q') zs p).1 = 0) => And.intro (rowV_ok h) (kK_le z8 (show nx zs p + nm zs p ≤ zs.length from (kyR_ok (rowR_ok h).1).2.2.2.1) 3))
          have HRP2 := hide (fun (h : (rowR pk (p' + q') zs p).1 = 0) => (rowR_ok h).2.1)
          have HPK : Hid (pk = kAt (rws C) C.length ∧ ((p' + q' : Nat) : Int) = pAt (rws C) C.length) := ⟨hpk, hpq⟩
          clear A hpk hpq hpb
          go_wp2_with fail
          refine HRR.out.mono ?_
          rintro e y1 ⟨b1, hcase⟩
          have BY1 := hide b1
          clear b1 HRR c0 c1 c2 c3
          rcases hcase with ⟨hr0, rfl⟩ | ⟨hr0, u, rfl, hou⟩
          · have HF := hide (fun (o : Obj) => HERR.out (y1.alloc o) _ _ (by rw [HST.out, if_pos hr0]) ((BW.out.trans (BY1.out.mono BW.out.size)).alloc (by have := BW.out.size; have := BY1.out.size; omega) o))
            generalize rowR pk (p' + q') zs p = R at *
            obtain ⟨E, pl⟩ := R
            simp only at hr0 HF ⊢
            have he' : (E != 0) = true := by simp [hr0]
            go_wp2_with fail
            go_ret3
            exact HF.out _
          · have hkl := (HRP.out hr0).2
            have hfl := (HRP.out hr0).1
            have hp3 := HRP2.out hr0
            rw [← hp3, hl] at hkl
            replace HST : Hid (rdF zs = rdG zs (N - (i + 1)) (rowR pk (p' + q') zs p).2 (rws C ++ [rowV zs p])) := by show rdF zs = _; rw [HST.out, if_neg (fun h => h hr0)]
            generalize rowR pk (p' + q') zs p = R at *
            obtain ⟨E, pl⟩ := R
            simp only at hr0 hkl HST ⊢
            subst hr0
            have K8 := hide (ky_b8 z8 p)
            obtain ⟨rv, hrv⟩ : ∃ rv, rv = rowV zs p := ⟨_, rfl⟩
            have hrk : rv.k = ky zs p := by rw [hrv]; rfl
            rw [← hrv] at hfl HST ⊢
            rw [← hrk] at hou K8
            have HFL := hide hfl
            have HRG := hide (flt_zero hfl)
            clear hrv hrk hfl hp3 HRP HRP2
            obtain ⟨nk, hnk⟩ : ∃ nk, rv.k.length = nk := ⟨_, rfl⟩
            obtain ⟨ua, uc, rfl, _, _, hub⟩ := hou.sliceN hnk
            have HOU := hide hou
            have HUB := hide hub
            have li1 := HI.out.li.below BY1.out
            have LI1 := hide li1
            have hv1 := hide (fun k hk => HI.out.li.own.lt k hk)
            obtain ⟨y2, hy2⟩ : ∃ y2, y2 = y1.alloc (.cells #[.slice ua nk uc, .int .i64 rv.p, .int .i64 rv.l, .int .i64 rv.n] 33) := ⟨_, rfl⟩
            have b2 : Below y1.heap.size y1 y2 := by rw [hy2]; exact (Below.refl _ _).alloc (Nat.le_refl _) _
            have hb2 : y2.heap[y1.heap.size]? = some (.cells #[.slice ua nk uc, .int .i64 rv.p, .int .i64 rv.l, .int .i64 rv.n] 33 (0, 0)) := by rw [hy2]; exact heap_alloc_new y1 _
            have BY2 := hide (BY1.out.trans (b2.mono BY1.out.size))
            have LI2 := hide (LI1.out.below b2)
            have HOU2 := hide (HOU.out.below b2)
            have HGY : Hid (wr.heap.size ≤ y1.heap.size) := BY1.out.size
            clear hou hub li1 b2
            go_upto_region 14 with fail
            rw [← hy2]
            clear hy2
            obtain ⟨gs, hgs⟩ : ∃ gs, gs = y1.heap.size := ⟨_, rfl⟩
            rw [← hgs] at hb2
            have HB2 := hide hb2
            have hgs2 : gs < y2.heap.size := lt_of_block hb2
            have d0 : y2.cell? ⟨gs, 0, none⟩ = some (.slice ua nk uc) := by rw [cell_of_row _ _ _ _ _ _ hb2]; rfl
            have d1 : y2.cell? ⟨gs, 1, none⟩ = some (.int .i64 rv.p) := by rw [cell_of_row _ _ _ _ _ _ hb2]; rfl
            have d2 : y2.cell? ⟨gs, 2, none⟩ = some (.int .i64 rv.l) := by rw [cell_of_row _ _ _ _ _ _ hb2]; rfl
            have d3 : y2.cell? ⟨gs, 3, none⟩ = some (.int .i64 rv.n) := by rw [cell_of_row _ _ _ _ _ _ hb2]; rfl
            rw [← hgs]
            clear hb2
            replace hgs := hide hgs
            have z42 : w4.heap.size ≤ y2.heap.size := by have := HI.out.up.size; have := BY2.out.size; omega
            have LI2a := hide (LI2.out.below ((Below.refl y2.heap.size y2).alloc (Nat.le_refl _) (.cells #[.slice ua nk uc, .int .i64 rv.p, .int .i64 rv.l, .int .i64 rv.n] 33)))
            go_upto_region 15 with (first
              | (at_builtin; refine append_s rfl (.tmp 46) (.tmp 48) rfl w4.heap.size u9 C ⟨ua, uc, rv.k, rv.p, rv.l, rv.n⟩ rfl LI2a.out.own ⟨y2.heap.size, 0, none⟩ 1 rfl (by unfold Spn.kv; rw [hnk]; exact four_new _ _ _ _ _ _) (by omega) (by simp; omega) ?_; intro v3 y3 ho3 hg3 hk3)
              | fail)
            have hvb := HI.out.li.own.lt
            have hnc : (⟨ua, uc, rv.k, rv.p, rv.l, rv.n⟩ : Spn).kv = .slice ua nk uc := by unfold Spn.kv; rw [hnk]
            have hOA : OwnB (y2.alloc (.cells #[.slice ua nk uc, .int .i64 rv.p, .int .i64 rv.l, .int .i64 rv.n] 33)) w4.heap.size 5 (.slice ua nk uc) rv.k := (HOU2.out.below ((Below.refl y2.heap.size y2).alloc (Nat.le_refl _) _)).mono HI.out.up.size
            have LI3 : Hid (RdL y3 w4.heap.size v3 (C ++ [⟨ua, uc, rv.k, rv.p, rv.l, rv.n⟩])) := LI2a.out.app (by rw [hnc]; exact hOA) (fun b hb e => by rw [hnc] at hb; have := (HUB.out b hb).1; have := (hvb b e).2; omega) K8.out (by rw [← HPK.out.1, ← HPK.out.2]; exact HFL.out) (by omega) ho3 hg3 hk3
            have bAll : Below wr.heap.size wr (y2.alloc (.cells #[.slice ua nk uc, .int .i64 rv.p, .int .i64 rv.l, .int .i64 rv.n] 33)) := BY2.out.alloc BY2.out.size _
            have hgsz := hgs.out
            have hgy := HGY.out
            have kc : ∀ {j : Nat} {x : Value}, y2.cell? ⟨gs, j, none⟩ = some x → y3.cell? ⟨gs, j, none⟩ = some x := fun {j} {x} h => hg3.cell ((((Below.refl y2.heap.size y2).alloc (Nat.le_refl _) _).cell (p := ⟨gs, j, none⟩) hgs2).trans h) (fun e => by have := (hvb gs e.symm).2; omega)
            have e0 := kc d0
            have e1' := kc d1
            have e2 := kc d2
            have e3 := kc d3
            have hA3 : y3.heap[g]? = some (.cells #[.slice aa la ca, .int .i64 (p' : Int), .int .i64 (q' : Int), .int .i64 z] 33 (0, 0)) := (hg3.block g (by have := bAll.size; omega) (fun e => by have := (hvb g e.symm).1; omega)).trans ((bAll.block g hgl).trans AH.out.b)
            have u3 : Upd (fun b => b = g) w4 y3 := (HI.out.up.trans (Upd.of_below bAll _)).then (Upd.of_grown (S := fun k => u9.ownBlock = some k) hg3 (fun k hk _ => hk)) (fun k hk e => by have := (hvb k e).1; omega)
            have U4 : Hid (Upd (fun b => b = g) w4 (set4 y3 g (.slice ua nk uc) rv.p rv.l rv.n)) := u3.trans (set4_upd y3 g _ _ _ _)
            have LI4 : Hid (RdL (set4 y3 g (.slice ua nk uc) rv.p rv.l rv.n) w4.heap.size v3 (C ++ [⟨ua, uc, rv.k, rv.p, rv.l, rv.n⟩])) := LI3.out.upd (set4_upd y3 g _ _ _ _) (fun k h1 _ e => by omega)
            have hlC : (C ++ [(⟨ua, uc, rv.k, rv.p, rv.l, rv.n⟩ : Spn)]).length = C.length + 1 := by simp
            have hrw : rws (C ++ [⟨ua, uc, rv.k, rv.p, rv.l, rv.n⟩]) = rws C ++ [rv] := by rw [rws_app]; rfl
            have HN : Hid (RdI w4 (set4 y3 g (.slice ua nk uc) rv.p rv.l rv.n) g gt g2 g3 zs v3 (C ++ [⟨ua, uc, rv.k, rv.p, rv.l, rv.n⟩]) (N - (i + 1)) pl) := by
              have hrg := HRG.out
              have hpos : 0 ≤ rv.p ∧ 0 ≤ rv.l := by have := hrg.2.2.1; omega
              have lo := LI4.out.ok C.length (by rw [hlC]; omega)
              simp only [List.getElem_append_right (Nat.le_refl _), Nat.sub_self, List.getElem_cons_zero] at lo
              rw [hnc] at lo
              refine ⟨U4.out, ⟨ua, nk, uc, rv.p.toNat, rv.l.toNat, rv.n, rv.k, ⟨?_, lo.row, hnk, K8.out⟩, ?_, ?_⟩, LI4.out, by rw [hrw]; exact HST.out⟩
              · rw [i64_keep hpos.1, i64_keep hpos.2]
                exact set4_blk hA3
              · rw [hrw, hlC, ← rws_len C, kAt_new]
              · rw [hrw, hlC, ← rws_len C, pAt_new, Int.natCast_add, i64_keep hpos.1, i64_keep hpos.2]
            have f0 : y3.cell? ⟨g, 0, none⟩ = some (.slice aa la ca) := by rw [cell_of_row _ _ _ _ _ _ hA3]; rfl
            have f1 : y3.cell? ⟨g, 1, none⟩ = some (.int .i64 (p' : Int)) := by rw [cell_of_row _ _ _ _ _ _ hA3]; rfl
            have f2 : y3.cell? ⟨g, 2, none⟩ = some (.int .i64 (q' : Int)) := by rw [cell_of_row _ _ _ _ _ _ hA3]; rfl
            have f3 : y3.cell? ⟨g, 3, none⟩ = some (.int .i64 z) := by rw [cell_of_row _ _ _ _ _ _ hA3]; rfl
            have fz : ∀ j, y3.frozen? ⟨g, j, none⟩ = false := fun j => by simp [World.frozen?, hA3]
            have z0 := fz 0
            have z1 := fz 1
            have z2 := fz 2
            have z3 := fz 3
            clear hvb hOA bAll kc hA3 u3 fz ho3 hg3 hk3 d0 d1 d2 d3 hgsz hgy
            go_wp2_with fail
            go_roundw
            case rel => exact ⟨i + 1, pl, v3, _, by omega, hkl, by rw [hlC, hCi], by go_num, rfl, rfl, HN⟩
            case measure => simp [intOf]; omega
        · have j1 : ¬ (i : Int) < (N : Int) := by omega
          obtain rfl : i = N := by omega
          obtain ⟨va, vb, vc, hv, hva, hsp⟩ := HI.out.li.sps
          rw [hCi] at hv hva
          subst hv
          have hCn := HI.out.li.n
          rw [hCi] at hCn
          have hgd : Gd (rws C) i := by rw [← hCi]; exact HI.out.li.gd
          have HT := hide (total_any va vb 0 i vc C wr hCi (by omega) hva hsp)
          rw [tot_good hgd hCn] at HT
          have htl := totN_le hgd
          have HEN := hide (fun W (h : Below w.heap.size w W) => readend_any a l c p (totN (rws C) i) zs W hl hm (HRO.out W h) z8 hp (by omega))
          have HRD2 : Hid (rdF zs = if (enR zs p (totN (rws C) i)).1 ≠ 0 then ([], (enR zs p (totN (rws C) i)).1, (enR zs p (totN (rws C) i)).2) else (rws C, 0, 0)) := by
            show rdF zs = _
            rw [HI.out.rd, Nat.sub_self, rdG_end, rws_len, hCi]
          replace hCi := hide hCi
          clear hgd hva hsp
          generalize totN (rws C) i = tN at *
          generalize enR zs p tN = R at *
          obtain ⟨E, pl⟩ := R
          simp only at HEN HRD2
          go_wp2_with fail
          refine HT.out.mono ?_
          rintro e y1 ⟨rfl, b1⟩
          have BY1 := hide (BW.out.trans (b1.mono BW.out.size))
          have LI1 := hide (HI.out.li.below b1)
          clear b1 HT
          go_wp2_with fail
          refine (HEN.out y1 BY1.out).mono ?_
          rintro e y2 ⟨rfl, b2⟩
          have BY2 := hide (BY1.out.trans (b2.mono BY1.out.size))
          have LI2 := hide (LI1.out.below b2)
          clear b2
          by_cases hE0 : E = 0
          · subst hE0
            have HF : Hid (FRdPost w zs (.returned (.tuple #[.slice va i vc, .int .i64 0, .int .i64 ((0 : Nat) : Int)])) y2) := by
              have h : rdF zs = (rws C, 0, 0) := by rw [HRD2.out, if_neg (by simp)]
              exact ⟨_, C, by rw [h], LI2.out.mono B4.out.size, by rw [h], BY2.out⟩
            go_wp2_with fail
            go_ret3
            exact HF.out
          · have he' : (E != 0) = true := by simp [hE0]
            have HF := hide (HERR.out y2 E pl (by rw [HRD2.out, if_pos hE0]) BY2.out)
            go_wp2_with fail
            go_ret3
            exact HF.out
  · have he' : (E != 0) = true := by simp [he]
    have HF := hide (HERR.out w1 E Q (by rw [HRD.out, if_pos he]) B1.out)
    go_wp2_with fail
    go_ret3
    exact HF.out

end Go.Proofs.Ytlachimmfjagbaa
