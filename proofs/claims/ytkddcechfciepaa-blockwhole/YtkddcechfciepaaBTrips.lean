/- BlockTrips: the walk. -/
import Derived.Test.YtkddcechfciepaaBSame
import Derived.Test.YtkddcechfciepaaPSame
import Derived.Deep.DeepCutAuto
namespace Go.Proofs.Ytkddcechfciepaa
open Go.RowKit

theorem same0 {zs : List Int} (h : (bRes zs).2.1 = 0) (z8 : B8 zs) {Es : List Ent} (hk : kvs Es = (bRes zs).1) : Good (kvs Es) ∧ 0 < Es.length ∧ blk (kvs Es) = zs := by
  obtain ⟨g1, g2, g3, _⟩ := bRes_back z8 h
  rw [← hk] at g1 g2 g3
  rw [kvs_len] at g2
  exact ⟨g1, g2, g3⟩

set_option maxRecDepth 100000 in
set_option maxHeartbeats 3200000 in
theorem blockTrips_any (a : Option Addr) (b o l c : Nat) (L : List Ent) (a1 : Option Addr) (l1 c1 : Nat) (zs : List Int) (w : World) (hl : L.length = l) (hm : l ≤ 140737488351232) (ha : 0 < l → a = some ⟨b, o, none⟩) (hE : Ens w b o L)
    (hl1 : zs.length = l1) (hm1 : l1 ≤ 140737488351232) (hcl : l1 ≤ c1) (na : a1 = none → l1 = 0 ∧ c1 = 0) (hr : Row w .u8 a1 zs) (z8 : B8 zs) :
    Calls Try.prog 3 #[.slice a l c, .slice a1 l1 c1] w fun e w' => e = .returned (.bool true) ∧ Below w.heap.size w w' := by
  have HE := hide (fun (W : World) (h : Below w.heap.size w W) => hE.below h)
  have HR := hide (fun (W : World) (h : Below w.heap.size w W) => hr.below2 h)
  have HA := hide ha
  have HNA := hide na
  have HE0 := hide hE
  clear hE hr ha na
  go_enter Try.func3, Try.ntmps3
  go_wp2_with fail
  refine (lives_any _).mono ?_
  rintro e w1 ⟨rfl, t1⟩
  have T1 := hide t1
  clear t1
  go_wp2_with fail
  refine (build_any a b o l c L w1 hl hm HA.out (HE.out w1 T1.out)).mono ?_
  rintro e w2 ⟨u, n, r, rfl, hB, hO, b2⟩
  have T2 := hide (T1.out.trans (b2.mono T1.out.size))
  obtain ⟨nz, hnz⟩ : ∃ nz, (bldL L r).length = nz := ⟨_, rfl⟩
  obtain ⟨a2, c2, rfl, hn2, hc2, _⟩ := hO.sliceN hnz
  have O2 := hide hO
  have HBE := hide hB
  have HNZ := hide hnz
  have HN2 := hide hn2
  clear hB hO b2 hnz hn2
  go_upto_if 28 with fail
  go_cut [5] (fun s5 wx => s5 = .bool true ∧ Hid (Below w.heap.size w wx))
  case first =>
    by_cases hr0 : r = 0
    · subst hr0
      obtain ⟨hg, hp, hn0⟩ := bldE.good HE0.out HBE.out
      clear hn0
      have hbl : bldL L 0 = blk (kvs L) := by unfold bldL; rw [if_pos rfl]
      have hO := O2.out
      have hnz := HNZ.out
      rw [hbl] at hO hnz
      have hlen := blk_len hg
      rw [hnz] at hlen
      have hres := bRes_blk hg hp [] B8.nil
      rw [List.append_nil, if_pos rfl] at hres
      have hRD := hide (bread_any a2 nz c2 (blk (kvs L)) w2 hnz (by omega) hc2 HN2.out hO.row (blk_b8 hg))
      have HRS := hide hres
      have HG := hide hg
      clear hO hnz hbl hres hp hg
      go_wp2_with fail
      refine hRD.out.mono ?_
      rintro e w3 ⟨b3, ⟨h0, ga, Es, rfl, hEl, hkv⟩ | ⟨h0, _⟩⟩
      · rw [HRS.out] at hkv
        have hkv' : kvs Es = kvs L := hkv
        have hEsl : Es.length = l := by rw [← kvs_len, hkv', kvs_len, hl]
        have T3 := hide (T2.out.trans (b3.mono T2.out.size))
        have HEN := hide (hEl.ens (by rw [hkv']; exact HG.out))
        have HKV := hide hkv'
        rw [hEsl]
        clear b3 hEl hkv hkv' hRD
        go_wp2_with fail
        refine (sameall_ens (some ⟨ga, 0, none⟩) a ga 0 l b o l c Es L w3 hEsl hl HKV.out hm (fun _ => rfl) HA.out HEN.out (HE.out w3 T3.out)).mono ?_
        rintro e w4 ⟨rfl, b4⟩
        have T4 := hide (T3.out.trans (b4.mono T3.out.size))
        have i1 : ¬ (65535 : Int) < (nz : Int) := by omega
        clear b4
        go_wp2_with fail
        go_meet
        exact ⟨rfl, T4.out⟩
      · exact absurd (by rw [HRS.out]) h0
    · have hne : (r == 0) = false := by simp [hr0]
      go_wp2_with fail
      go_meet
      exact ⟨rfl, T2.out⟩
  case rest =>
  obtain ⟨rfl, HB⟩ := hcut
  rename World => w5
  clear O2 HBE HNZ T2 T1
  have hRD := hide (bread_any a1 l1 c1 zs w5 hl1 (by omega) hcl HNA.out (HR.out w5 HB.out) z8)
  go_wp2_with fail
  refine hRD.out.mono ?_
  rintro e w6 ⟨b6, ⟨h0, ga, Es, rfl, hEl, hkv⟩ | ⟨h0, rfl⟩⟩
  · obtain ⟨hg, hp, hbk⟩ := same0 h0 z8 hkv
    have T6 := hide (HB.out.trans (b6.mono HB.out.size))
    have hEn := hEl.ens hg
    have h64 := hg.n64
    rw [kvs_len] at h64
    have HBD := hide (build_any (some ⟨ga, 0, none⟩) ga 0 Es.length Es.length Es w6 rfl (by omega) (fun _ => rfl) hEn)
    have HG := hide hg
    have HP := hide hp
    have HBK := hide hbk
    clear b6 hEl hkv hRD hg hp hbk hEn
    generalize hEsl : Es.length = ne at *
    go_wp2_with fail
    refine HBD.out.mono ?_
    rintro e w7 ⟨u7, n7, r7, rfl, hB7, hO7, b7⟩
    obtain ⟨rfl, rfl⟩ := good_bld HG.out (by rw [hEsl]; exact HP.out) hB7
    have hbl : bldL Es 0 = zs := by unfold bldL; rw [if_pos rfl, HBK.out]
    rw [hbl] at hO7
    obtain ⟨a7, c7, rfl, _⟩ := hO7.sliceN hl1
    have T7 := hide (T6.out.trans (b7.mono T6.out.size))
    have SM := hide (sameq a7 a1 l1 c7 c1 zs w7 (by unfold maxLen; omega) hl1 hO7.row (HR.out w7 T7.out))
    clear hB7 hO7 b7 hbl HBD
    go_wp2_with fail
    refine SM.out.mono ?_
    rintro e w8 ⟨rfl, m, hw⟩
    have T8 : Hid (Below w.heap.size w w8) := by rw [hw]; exact below_of_drewN T7.out m
    clear hw
    go_wp2_with fail
    go_ret
    exact ⟨rfl, T8.out⟩
  · have hne : ((bRes zs).2.1 == 0) = false := by simp [h0]
    have T6 := hide (HB.out.trans (b6.mono HB.out.size))
    generalize (bRes zs).2.1 = er at *
    generalize (bRes zs).2.2 = pl at *
    clear b6 hRD
    go_wp2_with fail
    go_ret
    exact ⟨rfl, T6.out⟩

end Go.Proofs.Ytkddcechfciepaa
