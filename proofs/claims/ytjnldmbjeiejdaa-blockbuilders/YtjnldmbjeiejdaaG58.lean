/- BlockBuilders: the walk. -/
import Derived.Test.YtjnldmbjeiejdaaG53
import Derived.Test.YtjnldmbjeiejdaaG38
import Derived.Test.YtjnldmbjeiejdaaG16
import Derived.RegionDies
namespace Go.Proofs.Ytjnldmbjeiejdaa
open Go.RowKit

set_option maxRecDepth 100000 in
set_option maxHeartbeats 3200000 in
theorem blockBuilders_any (sa : Option Addr) (sb so sl sc : Nat) (L : List BOp) (w : World) (hL : L.length = sl) (hm : sl ≤ 140737488351232) (hsa : 0 < sl → sa = some ⟨sb, so, none⟩) (hO : BOps w sb so L) :
    Calls Try.prog 8 #[.slice sa sl sc] w fun e w' => e = .returned (.bool true) ∧ Below w.heap.size w w' := by
  have HO := hide (fun (W : World) (h : Below w.heap.size w W) => hO.below h)
  have HSA := hide hsa
  clear hO hsa
  go_enter Try.func8, Try.ntmps8
  go_wp2_with fail
  refine (lives_any _).mono ?_
  rintro e w1 ⟨rfl, t1⟩
  have B0 := hide (bv_new w w1 t1)
  clear t1
  go_wp2_with fail
  refine (bnew_any w1).mono ?_
  rintro e w2 ⟨rfl, _, hw2⟩
  rw [← hw2] at B0
  have z2 : w2.heap.size = w1.heap.size + 1 := by rw [hw2]; simp
  clear hw2
  go_wp2_with fail
  refine (bnew_any w2).mono ?_
  rintro e w3 ⟨rfl, _, hw3⟩
  rw [← hw3] at B0
  have z3 : w3.heap.size = w1.heap.size + 2 := by rw [hw3]; simp; omega
  clear hw3
  rw [z2]
  go_upto_region 4 with fail
  obtain ⟨w5, hw5⟩ : ∃ w5, w5 = (w3.alloc (.cells #[.pointer (some ⟨w1.heap.size, 0, none⟩), .pointer (some ⟨w1.heap.size + 1, 0, none⟩)] 54)).alloc (.cells #[.slice none 0 0, .slice none 0 0] 59) := ⟨_, rfl⟩
  rw [← hw5] at B0 ⊢
  clear hw5 z2 z3
  rw [show w1.heap.size + 2 + 1 = w1.heap.size + 3 from rfl]
  obtain ⟨gx, hgx⟩ : ∃ gx, gx = w1.heap.size + 2 := ⟨_, rfl⟩
  obtain ⟨gy, hgy⟩ : ∃ gy, gy = w1.heap.size + 3 := ⟨_, rfl⟩
  obtain ⟨g1, hg1⟩ : ∃ g1, g1 = w1.heap.size + 1 := ⟨_, rfl⟩
  rw [← hgx, ← hgy, ← hg1] at B0 ⊢
  clear hgx hgy hg1
  generalize w1.heap.size = g0 at *
  have x0 : w5.cell? ⟨gx, 0, none⟩ = some (.pointer (some ⟨g0, 0, none⟩)) := by rw [cell_of_row _ _ _ _ _ _ B0.out.x]; rfl
  have x1 : w5.cell? ⟨gx, 1, none⟩ = some (.pointer (some ⟨g1, 0, none⟩)) := by rw [cell_of_row _ _ _ _ _ _ B0.out.x]; rfl
  obtain ⟨xs, hxs⟩ : ∃ xs : Array Value, xs = #[.pointer (some ⟨g0, 0, none⟩), .pointer (some ⟨g1, 0, none⟩)] := ⟨_, rfl⟩
  rw [← hxs] at B0
  have H0 : Hid (∃ cs M0 v0 E0 M1 v1 E1, BV w w5 gx gy 0 xs cs g0 M0 (kvs E0) v0 E0 g1 M1 (kvs E1) v1 E1) := ⟨_, _, _, [], _, _, [], B0.out⟩
  have HX0 : Hid (xs[0]? = some (.pointer (some ⟨g0, 0, none⟩)) ∧ xs[1]? = some (.pointer (some ⟨g1, 0, none⟩))) := ⟨B0.out.xk, B0.out.xk'⟩
  clear B0 hxs
  go_wp2_with fail
  clear x0 x1
  go_loopw [6] (fun q wr => ∃ i : Nat, i ≤ sl ∧ q = .int .i64 (i : Int) ∧ Hid (∃ cs M0 v0 E0 M1 v1 E1, BV w wr gx gy 0 xs cs g0 M0 (kvs E0) v0 E0 g1 M1 (kvs E1) v1 E1)) (fun q _ => sl - (intOf q).toNat)
  case atStart => exact ⟨0, Nat.zero_le _, rfl, H0⟩
  case round =>
    clear H0
    obtain ⟨i, hi, rfl, HV⟩ := hrel
    rename World => wr
    by_cases hlt : i < sl
    · have i1 : (i : Int) < (sl : Int) := by omega
      have i2 : (0 : Int) ≤ (i : Int) := by omega
      obtain rfl := HSA.out (by omega)
      have hiL : i < L.length := by omega
      have HBEL : Hid (Below w.heap.size w wr) := by obtain ⟨_, _, _, _, _, _, _, h⟩ := HV.out; exact h.bel
      have o0 := (HO.out wr HBEL.out).at0 i hiL
      have o1 := (HO.out wr HBEL.out).at1 i hiL
      have o2 := (HO.out wr HBEL.out).at2 i hiL
      have o3 := (HO.out wr HBEL.out).at3 i hiL
      have HOK := hide (fun (W : World) (h : Below w.heap.size w W) => (HO.out W h).ok i hiL)
      have HLO : Hid (∀ x, (L[i].e.ka = some x ∧ 0 < L[i].e.ks.length) ∨ (L[i].e.va = some x ∧ 0 < L[i].e.vs.length) → x.block < w.heap.size) := fun x hx => by
        have ok := (HO.out w (Below.refl _ _)).ok i hiL
        rcases hx with ⟨h1, h2⟩ | ⟨h1, h2⟩
        · exact row_lt ok.k h1 h2
        · exact row_lt ok.v h1 h2
      generalize L[i] = op at *
      obtain ⟨wb, kind, en⟩ := op
      simp only at o0 o1 o2 o3 HOK HLO
      unfold Ent.kv at o2
      unfold Ent.vv at o3
      obtain ⟨nk, hnk⟩ : ∃ nk, en.ks.length = nk := ⟨_, rfl⟩
      obtain ⟨nv, hnv⟩ : ∃ nv, en.vs.length = nv := ⟨_, rfl⟩
      rw [hnk] at o2
      rw [hnv] at o3
      replace hnk := hide hnk
      replace hnv := hide hnv
      go_upto_region 11 with fail
      obtain ⟨wA, hwA⟩ : ∃ wA, wA = wr.alloc (.cells #[.bool wb, .int .i64 kind, .slice en.ka nk en.kc, .slice en.va nv en.vc] 61) := ⟨_, rfl⟩
      rw [← hwA]
      obtain ⟨gt, hgt⟩ : ∃ gt, gt = wr.heap.size := ⟨_, rfl⟩
      rw [← hgt]
      have bA : Below wr.heap.size wr wA := by rw [hwA]; exact (Below.refl _ _).alloc (Nat.le_refl _) _
      have hT : wA.heap[gt]? = some (.cells #[.bool wb, .int .i64 kind, .slice en.ka nk en.kc, .slice en.va nv en.vc] 61 (0, 0)) := by rw [hwA, hgt]; exact heap_alloc_new wr _
      have HT := hide hT
      have hgt' : gt < wA.heap.size := lt_of_block hT
      have HVA : Hid (∃ cs M0 v0 E0 M1 v1 E1, (BV w wA gx gy 0 xs cs g0 M0 (kvs E0) v0 E0 g1 M1 (kvs E1) v1 E1) ∧ ∀ i, (M0 i ∨ M1 i ∨ i = gx ∨ i = gy ∨ v0.ownBlock = some i ∨ v1.ownBlock = some i) → i ≠ gt) := by
        obtain ⟨cs, M0, v0, E0, M1, v1, E1, h⟩ := HV.out
        refine ⟨cs, M0, v0, E0, M1, v1, E1, h.below bA, fun i hi e => ?_⟩
        have q := h.young i (by omega)
        rcases hi with h1 | h1 | h1 | h1 | h1 | h1
        · exact q.2.1 h1
        · exact q.2.2.1 h1
        · exact q.2.2.2.1 h1
        · exact q.2.2.2.2.1 h1
        · exact q.2.2.2.2.2.1 h1
        · exact q.2.2.2.2.2.2 h1
      have hgtN : w.heap.size ≤ gt := by rw [hgt]; exact HBEL.out.size
      have t0 : wA.cell? ⟨gt, 0, none⟩ = some (.bool wb) := by rw [cell_of_row _ _ _ _ _ _ hT]; rfl
      have t1 : wA.cell? ⟨gt, 1, none⟩ = some (.int .i64 kind) := by rw [cell_of_row _ _ _ _ _ _ hT]; rfl
      clear hT hwA hgt bA HV HBEL o0 o1 o2 o3
      go_upto_if 50 with fail
      go_cut [8] (fun s8 wx => s8 = .int .i64 (((if wb = true then 1 else 0) : Nat) : Int) ∧ Hid (wx = wA))
      case first =>
        cases wb
        · go_wp2_with fail
          go_meet
          exact ⟨rfl, rfl⟩
        · go_wp2_with fail
          go_meet
          exact ⟨rfl, rfl⟩
      case rest =>
      obtain ⟨rfl, hwx⟩ := hcut
      rename World => wc
      obtain rfl : wc = wA := hwx.out
      have HVK : Hid (∃ cs g M v E g' M' v' E', (BV w wc gx gy (if wb = true then 1 else 0) xs cs g M (kvs E) v E g' M' (kvs E') v' E') ∧ ∀ i, (M i ∨ M' i ∨ i = gx ∨ i = gy ∨ v.ownBlock = some i ∨ v'.ownBlock = some i) → i ≠ gt) := by
        obtain ⟨cs, M0, v0, E0, M1, v1, E1, h, hd⟩ := HVA.out
        cases wb
        · exact ⟨cs, g0, M0, v0, E0, g1, M1, v1, E1, h, hd⟩
        · refine ⟨cs, g1, M1, v1, E1, g0, M0, v0, E0, h.swap, fun i hi => hd i ?_⟩
          rcases hi with h1 | h1 | h1 | h1 | h1 | h1
          · exact .inr (.inl h1)
          · exact .inl h1
          · exact .inr (.inr (.inl h1))
          · exact .inr (.inr (.inr (.inl h1)))
          · exact .inr (.inr (.inr (.inr (.inr h1))))
          · exact .inr (.inr (.inr (.inr (.inl h1))))
      have hk1 : (if wb = true then 1 else 0) ≤ 1 := by split <;> omega
      generalize hkk : (if wb = true then 1 else 0) = k at *
      have hkk' := hide hkk
      clear hkk HVA t0
      have j1 : (0 : Int) ≤ (k : Int) := by omega
      have j2 : (k : Int) < 2 := by omega
      go_upto_block 2 with fail
      go_cut [53] (fun _ wx => Hid (∃ cs g M v E g' M' v' E', BV w wx gx gy k xs cs g M (kvs E) v E g' M' (kvs E') v' E'))
      case first =>
        obtain ⟨cs, g, M, v, E, g', M', v', E', hV, hsep⟩ := HVK.out
        have V := hide hV
        have HSEP := hide hsep
        clear hV hsep HVK
        by_cases hk0 : kind = 0
        · subst hk0
          have t2 : wc.cell? ⟨gt, 2, none⟩ = some (.slice en.ka nk en.kc) := by rw [cell_of_row _ _ _ _ _ _ HT.out]; rfl
          have t3 : wc.cell? ⟨gt, 3, none⟩ = some (.slice en.va nv en.vc) := by rw [cell_of_row _ _ _ _ _ _ HT.out]; rfl
          obtain ⟨w1, hw1⟩ : ∃ w1, w1 = wc.alloc (.cells #[.slice en.ka nk en.kc, .slice en.va nv en.vc] 25) := ⟨_, rfl⟩
          have b1 : Below wc.heap.size wc w1 := by rw [hw1]; exact (Below.refl _ _).alloc (Nat.le_refl _) _
          have hB1 : w1.heap[wc.heap.size]? = some (.cells #[.slice en.ka nk en.kc, .slice en.va nv en.vc] 25 (0, 0)) := by rw [hw1]; exact heap_alloc_new wc _
          have hz1 : w1.heap.size = wc.heap.size + 1 := by rw [hw1]; simp
          have V1 := hide (V.out.below b1)
          have HT1 := hide ((b1.block gt hgt').trans HT.out)
          have OK1 := hide (HOK.out w1 V1.out.bel)
          have HC := hide (copy1_any wc.heap.size 0 1 en w1 (by rw [cell_of_row _ _ _ _ _ _ hB1]; unfold Ent.kv; rw [hnk.out]; rfl) (by rw [cell_of_row _ _ _ _ _ _ hB1]; unfold Ent.vv; rw [hnv.out]; rfl) OK1.out)
          clear b1 hB1
          go_wp2_with fail
          rw [← hw1]
          clear hw1
          refine HC.out.mono ?_
          rintro e w2 ⟨gk, gv, gm, rfl, hel, mk, mv, b2⟩
          have EL := hide hel
          have MK := hide mk
          have MV := hide mv
          have B2 := hide b2
          have V2 := hide (V1.out.below b2)
          have HT2 := hide ((b2.block gt (by omega)).trans HT1.out)
          have HSP2 := hide (hel.spi (Below.refl _ _))
          have hga : w1.heap.size < w2.heap.size := by obtain ⟨cur, h1, _⟩ := hel.eb; exact lt_of_block h1
          obtain ⟨e0, e1⟩ := cp1_cells hel hnk.out hnv.out
          have x0 : w2.cell? ⟨gx, k, none⟩ = some (.pointer (some ⟨g, 0, none⟩)) := by rw [cell_of_row _ _ _ _ _ _ V2.out.x]; exact V2.out.xk
          have HADD := hide (badd1 V1.out hel b2 OK1.out hnk.out hnv.out)
          have HZ1 := hide hz1
          clear hel mk mv b2 HC t2 t3 hz1
          obtain ⟨ga, hgae⟩ : ∃ ga, ga = w1.heap.size := ⟨_, rfl⟩
          rw [← hgae] at e0 e1 hga ⊢
          replace hgae := hide hgae
          obtain ⟨ad, had⟩ : ∃ ad, ad = addE (kvs E) en.ks en.vs := ⟨_, rfl⟩
          rw [← had] at HADD
          have HAD := hide had
          clear had
          go_upto_region 16 with fail
          go_cut [10] (fun s10 wx => s10 = .int .i64 ad ∧ Hid (∃ M1, BV w wx gx gy k xs cs g M1 (addL (kvs E) en.ks en.vs) v E g' M' (kvs E') v' E' ∧ Upd M w2 wx ∧ ∀ i, M1 i → M i ∨ w2.heap.size ≤ i))
          case first =>
            go_region_law (first
              | (go_simp; go_at_call 27; refine HADD.out.mono ?_; rintro e w3 ⟨rfl, hv3⟩; have V3 := hide hv3; clear hv3)
              | fail)
            all_goals
              go_wp2_with fail
              go_meet
              exact ⟨rfl, V3⟩
          case rest =>
          obtain ⟨rfl, hc3⟩ := hcut
          rename World => w3
          obtain ⟨M1, hv3, hu3, hm3⟩ := hc3.out
          have V3 := hide hv3
          have U3 := hide hu3
          have HM1 := hide hm3
          clear hv3 hu3 hm3 hc3
          have ut : Hid (w3.heap[gt]? = some (.cells #[.bool wb, .int .i64 0, .slice en.ka nk en.kc, .slice en.va nv en.vc] 61 (0, 0))) := U3.out.heap HT2.out (fun h => HSEP.out gt (.inl h) rfl)
          have t2 : w3.cell? ⟨gt, 2, none⟩ = some (.slice en.ka nk en.kc) := by rw [cell_of_row _ _ _ _ _ _ ut.out]; rfl
          have t3 : w3.cell? ⟨gt, 3, none⟩ = some (.slice en.va nv en.vc) := by rw [cell_of_row _ _ _ _ _ _ ut.out]; rfl
          have HYG : Hid (∀ i, w1.heap.size ≤ i → ¬ M i) := fun i hi => (V1.out.young i hi).2.1
          have EL3 := hide (EL.out.upd U3.out (fun i h _ => HYG.out i h))
          have MK3 : Hid (Mkd w3 gk en.ks) := fun i hi => U3.out.cell (MK.out i hi) (HYG.out gk (cp1_young EL.out).1)
          have MV3 : Hid (Mkd w3 gv en.vs) := fun i hi => U3.out.cell (MV.out i hi) (HYG.out gv (cp1_young EL.out).2)
          have SP3 := hide (HSP2.out.move U3.out (fun i h _ => HYG.out i h) ⟨Nat.le_refl _, hgae.out ▸ hga⟩)
          have z3 := U3.out.size
          obtain ⟨w4, hw4⟩ : ∃ w4, w4 = w3.alloc (.cells #[.slice en.ka nk en.kc, .slice en.va nv en.vc] 25) := ⟨_, rfl⟩
          have b4 : Below w3.heap.size w3 w4 := by rw [hw4]; exact (Below.refl _ _).alloc (Nat.le_refl _) _
          have hB4 : w4.heap[w3.heap.size]? = some (.cells #[.slice en.ka nk en.kc, .slice en.va nv en.vc] 25 (0, 0)) := by rw [hw4]; exact heap_alloc_new w3 _
          have V4 := hide (V3.out.below b4)
          have HK := hide (rkept_yes (some ⟨w3.heap.size, 0, none⟩) w1.heap.size w1.heap.size 2 w3.heap.size 0 1 1 [cpE en gk gv] [en] w4 rfl (by omega) (by omega) ((cpd1 EL3.out MK3.out MV3.out).below b4) (fun _ => rfl) (one_ens hB4 hnk.out hnv.out (HOK.out w4 V4.out.bel)) (fun _ => lt_of_block hB4))
          rw [← hgae.out] at HK
          have B4 := hide b4
          clear b4 hB4 x0 e0 e1
          go_wp2_with fail
          rw [← hw4]
          clear hw4
          refine HK.out.mono ?_
          rintro e w5 ⟨rfl, b5⟩
          have B45 := hide (B4.out.trans (b5.mono B4.out.size))
          have V5 := hide (V4.out.below b5)
          have SP5 := hide (SP3.out.move (Upd.of_below B45.out Noth) (fun _ _ _ e => e) ⟨Nat.le_refl _, hgae.out ▸ hga⟩)
          have HS := hide (rspoil_spi (n := 2) SP5 ⟨Nat.le_refl _, hgae.out ▸ hga⟩ rfl (by decide) 1)
          rw [← hgae.out] at HS
          have ut5 := hide ((B45.out.block gt (lt_of_block ut.out)).trans ut.out)
          clear b5 HK t2 t3
          go_wp2_with fail
          refine HS.out.mono ?_
          rintro e w6 ⟨rfl, u6⟩
          have V6 : Hid (BV w w6 gx gy k xs cs g M1 (addL (kvs E) en.ks en.vs) v E g' M' (kvs E') v' E') := V5.out.upd u6 (fun i hi => by
            rw [hgae.out] at hi
            have q := V1.out.young i hi.1
            exact ⟨q.1, fun h => (HM1.out i h).elim q.2.1 (fun h => by omega), q.2.2⟩)
          have ut6 : Hid (w6.heap[gt]? = some (.cells #[.bool wb, .int .i64 0, .slice en.ka nk en.kc, .slice en.va nv en.vc] 61 (0, 0))) := u6.heap ut5.out (fun h => by have := HZ1.out; have := hgae.out; omega)
          have t2 : w6.cell? ⟨gt, 2, none⟩ = some (.slice en.ka nk en.kc) := by rw [cell_of_row _ _ _ _ _ _ ut6.out]; rfl
          have t3 : w6.cell? ⟨gt, 3, none⟩ = some (.slice en.va nv en.vc) := by rw [cell_of_row _ _ _ _ _ _ ut6.out]; rfl
          have HRA := hide (radd1 V6.out (HOK.out w6 V6.out.bel) HLO.out hnk.out hnv.out)
          rw [← HAD.out] at HRA
          clear u6 HS
          go_upto_region 19 with fail
          go_region_law (first
            | (go_simp; go_at_call 28; refine HRA.out.mono ?_; rintro e w7 ⟨rfl, cs7, v7, E7, hv7⟩; have V7 := hide hv7; clear hv7)
            | fail)
          all_goals
            go_wp2_with fail
            go_meet
            exact ⟨_, _, _, _, _, _, _, _, _, V7.out⟩
        · by_cases hk1' : kind = 1
          · subst hk1'
            have x0 : wc.cell? ⟨gx, k, none⟩ = some (.pointer (some ⟨g, 0, none⟩)) := by rw [cell_of_row _ _ _ _ _ _ V.out.x]; exact V.out.xk
            have HBB := hide (bbytes_any V.out.b)
            go_wp2_with fail
            refine HBB.out.mono ?_
            rintro e wd ⟨u, M1, rfl, hou, hbd, hM1, hud⟩
            have VD : Hid (BV w wd gx gy k xs cs g M1 [] v E g' M' (kvs E') v' E') := V.out.prog hbd (hud.mono (fun i _ e => by obtain ⟨_, _, _, _, _, hM⟩ := V.out.b; rw [e]; exact (hM g).2 (.inl rfl))) (fun i hi => .inl (hM1 i hi))
            have HM1 := hide hM1
            have OU := hide hou
            have zcd := hud.size
            have h64 := blk_len V.out.b.1
            obtain ⟨nb, hnb⟩ : ∃ nb, (blk (kvs E)).length = nb := ⟨_, rfl⟩
            obtain ⟨ua, uc, rfl, _, _, hub⟩ := hou.sliceN hnb
            rw [hnb] at h64
            clear hou hbd hM1 hud HBB x0
            have HRB := hide (rbytes_any2 VD.out.r)
            rw [hnb] at HRB
            replace hnb := hide hnb
            go_wp2_with fail
            refine HRB.out.mono ?_
            rintro e we ⟨ra, rc, rfl, hra, hrn, be⟩
            have VE := hide (VD.out.below be)
            have OUE := hide (OU.out.below be)
            have RA := hide hra
            have zde := be.size
            clear hra hrn be HRB
            go_wp2_with fail
            refine (same_any ua ra nb uc nb rc (blk (kvs E)) (blk (kvs E)) we (by unfold maxLen; omega) hnb.out hnb.out OUE.out.row RA.out).mono ?_
            rintro e wf ⟨rfl, sf⟩
            rw [decide_eq_true rfl]
            have bf := sf.below we.heap.size
            have VF := hide (VE.out.below bf)
            have OUF := hide (OUE.out.below bf)
            clear sf bf RA OUE VE
            go_wp2_with fail
            refine (spoil_any OUF.out).mono ?_
            rintro e wg ⟨rfl, gg⟩
            have ug : Upd (fun i => (Value.slice ua nb uc).ownBlock = some i) wf wg := Upd.of_grown gg (fun k hk _ => hk)
            have VG : Hid (BV w wg gx gy k xs cs g M1 [] v E g' M' (kvs E') v' E') := VF.out.upd ug (fun i e => by have q := V.out.young i (hub i e).1; exact ⟨q.1, fun h => q.2.1 (HM1.out i h), q.2.2⟩)
            have y0 := VG.out.r.c
            have y1 := VG.out.r.fr
            have VH := hide VG.out.clear
            clear gg ug
            go_wp2_with fail
            go_meet
            exact ⟨_, _, _, _, [], _, _, _, _, VH.out⟩
          · have hn0 : (kind == 0) = false := beq_eq_false_iff_ne.2 hk0
            have hn1 : (kind == 1) = false := beq_eq_false_iff_ne.2 hk1'
            go_wp2_with fail
            go_meet
            exact ⟨cs, g, M, v, E, g', M', v', E', V.out⟩
      case rest =>
      rename World => wh
      clear HVK t1 HT
      obtain ⟨cs, g, M, v, E, g', M', v', E', hV⟩ := hcut.out
      have V := hide hV
      clear hV hcut
      obtain ⟨a, c, hv⟩ : ∃ a c, v = .slice a E.length c := by obtain ⟨a, eb, c, hv, _, _, _⟩ := V.out.r.ens; exact ⟨a, c, hv⟩
      subst hv
      obtain ⟨n, hn⟩ : ∃ n, E.length = n := ⟨_, rfl⟩
      have h64 : n ≤ 64 := by have := V.out.r.g.n64; rw [kvs_len, hn] at this; exact this
      have x0 : wh.cell? ⟨gx, k, none⟩ = some (.pointer (some ⟨g, 0, none⟩)) := by rw [cell_of_row _ _ _ _ _ _ V.out.x]; exact V.out.xk
      have HLN := hide (blen_any V.out.b)
      have HSZ := hide (bsize_any V.out.b)
      rw [kvs_len, hn] at HLN
      go_wp2_with fail
      refine HLN.out.mono ?_
      rintro e wi ⟨rfl, rfl⟩
      go_wp2_with fail
      refine HSZ.out.mono ?_
      rintro e wj ⟨rfl, mj, hwj⟩
      have bj : Below wi.heap.size wi wj := by rw [hwj]; exact below_of_drewN (Below.refl _ _) mj
      have VJ := hide (V.out.below bj)
      clear hwj bj HLN HSZ x0 V
      have x1 : wj.cell? ⟨gx, k, none⟩ = some (.pointer (some ⟨g, 0, none⟩)) := by rw [cell_of_row _ _ _ _ _ _ VJ.out.x]; exact VJ.out.xk
      have HLA := hide (blast_any VJ.out.b)
      go_wp2_with fail
      refine HLA.out.mono ?_
      rintro e wk ⟨u, rfl, hou, bk⟩
      have VK := hide (VJ.out.below bk)
      have OU := hide hou
      obtain ⟨nl, hnl⟩ : ∃ nl, (ahd (kvs E)).length = nl := ⟨_, rfl⟩
      have hnl64 : nl ≤ 64 := by rw [← hnl]; exact VJ.out.r.g.ahdl
      obtain ⟨ua, uc, rfl, _, _, hub⟩ := hou.sliceN hnl
      replace hnl := hide hnl
      clear hou bk HLA x1
      have y0 := VK.out.r.c
      rw [hn] at y0
      have HEK : Hid (∀ m (h : m < E.length), n = m + 1 → ∃ b0, a = some ⟨b0, 0, none⟩ ∧ wk.cell? ⟨b0, m * 2, none⟩ = some (.slice E[m].ka E[m].ks.length E[m].kc) ∧ Row wk .u8 E[m].ka E[m].ks ∧ E[m].ks = ahd (kvs E)) := fun m h hm => by
        obtain ⟨a', b', c', e1, e2, e3, _⟩ := VK.out.r.ens
        cases e1
        have d0 := e3.at0 m h
        rw [Nat.zero_add] at d0
        refine ⟨b', e2 (by omega), d0, (e3.ok m h).k, ?_⟩
        unfold ahd
        rw [kvs_len, hn, hm, Nat.add_sub_cancel, kvs_ky E m h]
      go_upto_if 124 with fail
      go_cut [17] (fun s17 wx => ∃ (wa : Option Addr) (wc' : Nat), s17 = .slice wa nl wc' ∧ Hid (Row wk .u8 wa (ahd (kvs E))) ∧ Hid (Below wk.heap.size wk wx))
      case first =>
        by_cases h0 : n = 0
        · subst h0
          have hE0 : Hid (E = []) := List.eq_nil_of_length_eq_zero hn
          have hnl0 : nl = 0 := by rw [← hnl.out, hE0.out]; rfl
          subst hnl0
          have hrow : Hid (Row wk .u8 none (ahd (kvs E))) := by show Row _ _ _ _; rw [hE0.out]; exact row_nil _ _ _
          rw [show ((0 : Nat) : Int) = 0 from rfl] at *
          go_wp2_with fail
          go_meet
          exact ⟨none, 0, rfl, hrow, Below.refl _ _⟩
        · obtain ⟨m, hm1⟩ : ∃ m, n = m + 1 := ⟨n - 1, by omega⟩
          have hmE : m < E.length := by omega
          obtain ⟨b0, rfl, d0, hrw, hah⟩ := HEK.out m hmE hm1
          have hlm : E[m].ks.length = nl := by rw [hah]; exact hnl.out
          rw [hlm] at d0
          have HRW : Hid (Row wk .u8 E[m].ka (ahd (kvs E))) := by rw [← hah]; exact hrw
          generalize E[m].ka = ka at *
          generalize E[m].kc = kc at *
          clear hrw hah hlm
          have q1 : IntKind.i64.wrap ((n : Int) - 1) = (m : Int) := by rw [IntKind.wrap_i64]; omega
          have q3 : (m : Int) < (n : Int) := by omega
          have q4 : (0 : Int) < (n : Int) := by omega
          have q5 : (0 : Int) ≤ (m : Int) := by omega
          clear hm1
          go_wp2_with fail
          go_quiet (fail)
          go_wp2_with fail
          go_meet
          exact ⟨ka, kc, rfl, HRW, below_of_drewN (Below.refl _ _) _⟩
      case rest =>
      obtain ⟨wa, wac, rfl, HRW, HBW⟩ := hcut
      rename World => wl
      have VL := hide (VK.out.below HBW.out)
      have OUL := hide (OU.out.below HBW.out)
      have RWL := hide (HRW.out.below2 HBW.out)
      clear HEK y0 HRW HBW OU
      go_wp2_with fail
      refine (same_any ua wa nl uc nl wac (ahd (kvs E)) (ahd (kvs E)) wl (by unfold maxLen; omega) hnl.out hnl.out OUL.out.row RWL.out).mono ?_
      rintro e wm ⟨rfl, sm⟩
      rw [decide_eq_true rfl]
      have bm := sm.below wl.heap.size
      have VM := hide (VL.out.below bm)
      have OUM := hide (OUL.out.below bm)
      clear sm bm OUL RWL
      go_wp2_with fail
      refine (spoil_any OUM.out).mono ?_
      rintro e wn ⟨rfl, gg⟩
      have ug : Upd (fun i => (Value.slice ua nl uc).ownBlock = some i) wm wn := Upd.of_grown gg (fun k hk _ => hk)
      have VN : Hid (BV w wn gx gy k xs cs g M (kvs E) (.slice a E.length c) E g' M' (kvs E') v' E') := VM.out.upd ug (fun i e => VJ.out.young i (hub i e).1)
      have y1 := VN.out.r.c
      rw [hn] at y1
      have HRB := hide (rbytes_any2 VN.out.r)
      obtain ⟨nb, hnb⟩ : ∃ nb, (blk (kvs E)).length = nb := ⟨_, rfl⟩
      rw [hnb] at HRB ⊢
      clear gg ug OUM hub
      go_wp2_with fail
      refine HRB.out.mono ?_
      rintro e wo ⟨ra, rc, rfl, _, _, bo⟩
      have VO := hide (VN.out.below bo)
      have HBACK : Hid (∃ cs M0 v0 E0 M1 v1 E1, BV w wo gx gy 0 xs cs g0 M0 (kvs E0) v0 E0 g1 M1 (kvs E1) v1 E1) := by
        have hx := HX0.out
        have hv := VO.out
        have hc : k = 0 ∨ k = 1 := by omega
        rcases hc with rfl | rfl
        · have e1 := hv.xk.symm.trans hx.1
          have e2 := hv.xk'.symm.trans hx.2
          cases e1
          cases e2
          exact ⟨_, _, _, _, _, _, _, hv⟩
        · have e1 := hv.xk.symm.trans hx.2
          have e2 := hv.xk'.symm.trans hx.1
          cases e1
          cases e2
          exact ⟨_, _, _, _, _, _, _, hv.swap⟩
      clear bo HRB y1
      go_wp2_with fail
      go_roundw
      case rel => exact ⟨i + 1, by omega, by go_num, HBACK⟩
      case measure => simp [intOf]; omega
    · have i1 : ¬ (i : Int) < (sl : Int) := by omega
      obtain ⟨cs, M0, v0, E0, M1, v1, E1, hV⟩ := HV.out
      have V := hide hV
      clear hV HV
      have x0 : wr.cell? ⟨gx, 0, none⟩ = some (.pointer (some ⟨g0, 0, none⟩)) := by rw [cell_of_row _ _ _ _ _ _ V.out.x]; exact V.out.xk
      have HB0 := hide (bbytes_any V.out.b)
      go_wp2_with fail
      refine HB0.out.mono ?_
      rintro e w1 ⟨u, N0, rfl, hou, hbd, hN0, hud⟩
      have V1 : Hid (BV w w1 gx gy 0 xs cs g0 N0 [] v0 E0 g1 M1 (kvs E1) v1 E1) := V.out.prog hbd (hud.mono (fun i _ e => by obtain ⟨_, _, _, _, _, hM⟩ := V.out.b; rw [e]; exact (hM g0).2 (.inl rfl))) (fun i hi => .inl (hN0 i hi))
      have h64a := blk_len V.out.b.1
      obtain ⟨na, hna⟩ : ∃ na, (blk (kvs E0)).length = na := ⟨_, rfl⟩
      rw [hna] at h64a
      obtain ⟨ua, uc, rfl, _, _, hub⟩ := hou.sliceN hna
      have OA := hide hou
      have HUB := hide hub
      replace hna := hide hna
      clear hou hbd hN0 hud HB0 x0 hub
      have x1 : w1.cell? ⟨gx, 1, none⟩ = some (.pointer (some ⟨g1, 0, none⟩)) := by rw [cell_of_row _ _ _ _ _ _ V1.out.x]; exact V1.out.xk'
      have HB1 := hide (bbytes_any V1.out.b')
      go_wp2_with fail
      refine HB1.out.mono ?_
      rintro e w2 ⟨u, N1, rfl, hou, hbd, hN1, hud⟩
      have HMg : Hid (M1 g1) := by obtain ⟨_, _, _, _, _, hM⟩ := V.out.b'; exact (hM g1).2 (.inl rfl)
      have V2 : Hid (BV w w2 gx gy 1 xs cs g1 N1 [] v1 E1 g0 N0 [] v0 E0) := V1.out.swap.prog hbd (hud.mono (fun i _ e => by rw [e]; exact HMg.out)) (fun i hi => .inl (hN1 i hi))
      have OA2 := hide (OA.out.upd hud (fun i hi e => (V.out.young i (HUB.out i hi).1).2.2.1 (e ▸ HMg.out)))
      have h64b := blk_len V1.out.b'.1
      obtain ⟨nb, hnb⟩ : ∃ nb, (blk (kvs E1)).length = nb := ⟨_, rfl⟩
      rw [hnb] at h64b
      obtain ⟨ub, uc', rfl, _, _, _⟩ := hou.sliceN hnb
      have OB := hide hou
      clear hou hbd hN1 hud HB1 x1
      have HR0 := hide (rbytes_any2 (k := 0) V2.out.r')
      rw [hna.out] at HR0
      replace hnb := hide hnb
      go_wp2_with fail
      refine HR0.out.mono ?_
      rintro e w3 ⟨ra, rc, rfl, hra, _, b3⟩
      have V3 := hide (V2.out.below b3)
      have OA3 := hide (OA2.out.below b3)
      have OB3 := hide (OB.out.below b3)
      have RA := hide hra
      clear hra b3 HR0
      go_wp2_with fail
      refine (same_any ua ra na uc na rc (blk (kvs E0)) (blk (kvs E0)) w3 (by unfold maxLen; omega) hna.out hna.out OA3.out.row RA.out).mono ?_
      rintro e w4 ⟨rfl, s4⟩
      rw [decide_eq_true rfl]
      have b4 := s4.below w3.heap.size
      have V4 := hide (V3.out.below b4)
      have OB4 := hide (OB3.out.below b4)
      clear s4 b4 RA
      have HR1 := hide (rbytes_any2 (k := 1) V4.out.r)
      rw [hnb.out] at HR1
      go_wp2_with fail
      refine HR1.out.mono ?_
      rintro e w5 ⟨rb, rc', rfl, hrb, _, b5⟩
      have V5 := hide (V4.out.below b5)
      have OB5 := hide (OB4.out.below b5)
      have RB := hide hrb
      clear hrb b5 HR1
      go_wp2_with fail
      refine (same_any ub rb nb uc' nb rc' (blk (kvs E1)) (blk (kvs E1)) w5 (by unfold maxLen; omega) hnb.out hnb.out OB5.out.row RB.out).mono ?_
      rintro e w6 ⟨rfl, s6⟩
      rw [decide_eq_true rfl]
      have V6 := hide (V5.out.below (s6.below w5.heap.size))
      clear s6 RB
      go_wp2_with fail
      go_ret
      exact ⟨rfl, V6.out.bel⟩

end Go.Proofs.Ytjnldmbjeiejdaa
