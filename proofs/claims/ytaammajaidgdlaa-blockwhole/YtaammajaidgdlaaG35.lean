/- Two lists of entries held against one another; entries that were read as a list of them. -/
import Derived.Test.YtaammajaidgdlaaG32
import Derived.Test.YtaammajaidgdlaaG34
import Derived.Test.YtaammajaidgdlaaG5
import Derived.Deep.DeepCutAuto
namespace Go.Proofs.Ytaammajaidgdlaa
open Go.RowKit

theorem kvs_at {C L : List Ent} (h : kvs C = kvs L) (i : Nat) (h1 : i < C.length) (h2 : i < L.length) : C[i].ks = L[i].ks ∧ C[i].vs = L[i].vs := by
  have e : (kvs C)[i]? = (kvs L)[i]? := by rw [h]
  simp only [kvs, List.getElem?_map, List.getElem?_eq_getElem h1, List.getElem?_eq_getElem h2, Option.map_some, Option.some.injEq, Prod.mk.injEq] at e
  exact e

set_option maxRecDepth 100000 in
set_option maxHeartbeats 3200000 in
theorem sameall_ens (a1 a2 : Option Addr) (g o1 cap b o l c : Nat) (C L : List Ent) (w : World) (hCl : C.length = l) (hl : L.length = l) (hk : kvs C = kvs L) (hm : l ≤ 140737488351232) (ha1 : 0 < l → a1 = some ⟨g, o1, none⟩) (ha : 0 < l → a2 = some ⟨b, o, none⟩) (hC : Ens w g o1 C) (hE : Ens w b o L) :
    Calls Try.prog 20 #[.slice a1 l cap, .slice a2 l c] w fun e w' => e = .returned (.bool true) ∧ Below w.heap.size w w' := by
  have HE := hide (fun (W : World) (h : Below w.heap.size w W) => hE.below h)
  have HC := hide (fun (W : World) (h : Below w.heap.size w W) => hC.below h)
  have hg : 0 < l → g < w.heap.size := fun h => hC.lt (by omega)
  have hb : 0 < l → b < w.heap.size := fun h => hE.lt (by omega)
  clear hE hC
  go_enter Try.func20, Try.ntmps20
  go_wp2
  go_loopw [5] (fun q wr => ∃ k : Nat, k ≤ l ∧ q = .int .i64 (k : Int) ∧ Hid (Below w.heap.size w wr)) (fun q _ => l - (intOf q).toNat)
  case atStart => exact ⟨0, by omega, rfl, Below.refl _ _⟩
  case round =>
    obtain ⟨k, hkk, rfl, HB⟩ := hrel
    by_cases hlt : k < l
    · obtain rfl := ha (by omega)
      obtain rfl := ha1 (by omega)
      replace hb := hb (by omega)
      replace hg := hg (by omega)
      have hkC : k < C.length := by omega
      have hkL : k < L.length := by omega
      have hen := HE.out wr HB.out
      have hcp := HC.out wr HB.out
      have e1 := kvs_at hk k hkC hkL
      have ok := hen.ok k hkL
      have ok1 := hcp.ok k hkC
      have d0 := hcp.at0 k hkC
      have d1 := hcp.at1 k hkC
      have c0 := hen.at0 k hkL
      have c1 := hen.at1 k hkL
      generalize C[k] = cn at *
      generalize L[k] = en at *
      unfold Ent.kv at c0 d0
      unfold Ent.vv at c1 d1
      have q1 := ok1.k
      have q2 := ok1.v
      rw [e1.1] at d0 q1
      rw [e1.2] at d1 q2
      have SM := hide (rsame_eq cn.ka en.ka cn.va en.va en.ks.length cn.kc en.kc en.vs.length cn.vc en.vc en.ks en.vs wr.drew rfl rfl (show Row wr .u8 _ _ from q1) ok.k (show Row wr .u8 _ _ from q2) ok.v)
      have i1 : (k : Int) < (l : Int) := by omega
      clear hen hcp e1 ok ok1 q1 q2 hk
      go_wp2_with fail
      have hbr : b < wr.heap.size := by have := HB.out.size; omega
      have hgr : g < wr.heap.size := by have := HB.out.size; omega
      go_region_held3 (fun W => W.cell? ⟨g, o1 + k * 2, none⟩ = some (.slice cn.ka en.ks.length cn.kc) ∧ W.cell? ⟨g, o1 + k * 2 + 1, none⟩ = some (.slice cn.va en.vs.length cn.vc) ∧ W.cell? ⟨b, o + k * 2, none⟩ = some (.slice en.ka en.ks.length en.kc) ∧ W.cell? ⟨b, o + k * 2 + 1, none⟩ = some (.slice en.va en.vs.length en.vc)) (go_keep) (first
        | (go_at_call 44; refine SM.out.mono ?_; rintro e w2 ⟨rfl, b2⟩; have B2 : Hid (Below wr.heap.size wr w2) := ⟨b2.os, b2.tape, b2.output, b2.size, b2.block⟩; have q0 := (b2.cell (p := ⟨g, o1 + k * 2, none⟩) hgr).trans d0; have q1 := (b2.cell (p := ⟨g, o1 + k * 2 + 1, none⟩) hgr).trans d1; have q2 := (b2.cell (p := ⟨b, o + k * 2, none⟩) hbr).trans c0; have q3 := (b2.cell (p := ⟨b, o + k * 2 + 1, none⟩) hbr).trans c1; clear b2)
        | fail)
      have T2 : Hid (Below w.heap.size w w2) := HB.out.trans (B2.out.mono HB.out.size)
      clear q0 q1 q2 q3 d0 d1 c0 c1
      go_wp2
      go_roundw
      case rel => exact ⟨k + 1, by omega, by go_num, T2⟩
      case measure => simp [intOf]; omega
    · have i1 : ¬ (k : Int) < (l : Int) := by omega
      go_wp2
      go_ret
      exact ⟨rfl, HB.out⟩

theorem own_ok {W : World} {N : Nat} {a : Option Addr} {n c : Nat} {zs : List Int} (h : OwnB W N 5 (.slice a n c) zs) (hn : zs.length = n) : Row W .u8 a zs ∧ (a = none → n = 0 ∧ c = 0) ∧ n ≤ c := by
  obtain ⟨a', c', h1, h2, h3, _⟩ := h.sliceN hn
  cases h1
  exact ⟨h.row, h2, h3⟩
theorem good_at {Es : List Ent} (h : Good (kvs Es)) (i : Nat) (hi : i < Es.length) : 1 ≤ Es[i].ks.length ∧ Es[i].ks.length ≤ 64 ∧ Es[i].vs.length ≤ 256 ∧ B8 Es[i].ks ∧ B8 Es[i].vs := by
  have hi' : i < (kvs Es).length := by rw [kvs_len]; exact hi
  have h1 := h.k1 i hi'
  have h2 := h.v1 i hi'
  have h3 := h.k8 i hi'
  have h4 := h.v8 i hi'
  rw [kvs_ky Es i hi] at h1 h3
  rw [kvs_vl Es i hi] at h2 h4
  exact ⟨h1.1, h1.2, h2, h3, h4⟩
/-- Entries that were read are a list of entries. -/
theorem ElOk.ens {W : World} {N ga : Nat} {Es : List Ent} (h : ElOk W N ga Es) (hg : Good (kvs Es)) : Ens W ga 0 Es := by
  obtain ⟨cur, h1, h2, h3⟩ := h.eb
  refine ⟨fun i hi => ?_, fun i hi => ?_, fun i hi => ?_⟩
  · rw [Nat.zero_add, cell_of_row _ _ _ _ _ _ h1]; exact (h3 i hi).1
  · rw [Nat.zero_add, cell_of_row _ _ _ _ _ _ h1]; exact (h3 i hi).2
  · obtain ⟨o1, o2⟩ := h.ok i hi
    obtain ⟨g1, g2, g3, g4, g5⟩ := good_at hg i hi
    obtain ⟨r1, r2, r3⟩ := own_ok (a := Es[i].ka) (n := Es[i].ks.length) (c := Es[i].kc) o1 rfl
    obtain ⟨s1, s2, s3⟩ := own_ok (a := Es[i].va) (n := Es[i].vs.length) (c := Es[i].vc) o2 rfl
    exact ⟨r1, s1, r2, s2, r3, s3, g4, g5, by omega, by omega⟩
theorem chk_ok {k v : Nat} (h1 : 1 ≤ k) (h2 : k ≤ 64) (h3 : v ≤ 256) : chkE k v = 0 := by
  unfold chkE keyE valE
  rw [if_neg (show ¬ (k < 1 ∨ 64 < k) by omega)]
  simp
  omega
/-- Entries that may be are sorted. -/
theorem good_fL {Es : List Ent} (h : Good (kvs Es)) : ∀ i, i < Es.length → fL Es i = 0 := by
  intro i hi
  obtain ⟨g1, g2, g3, _⟩ := good_at h i hi
  have hc := chk_ok g1 g2 g3
  by_cases h0 : i = 0
  · subst h0; exact fL_zero hi hc
  · rw [fL_succ hi (by omega) hc, if_pos ?_]
    have := h.up (i - 1) (by rw [kvs_len]; omega)
    rw [show i - 1 + 1 = i by omega, kvs_ky Es i hi, kvs_ky Es (i - 1) (by omega)] at this
    exact this
theorem good_bld {Es : List Ent} (h : Good (kvs Es)) (h0 : 0 < Es.length) {n : Nat} {r : Int} (hb : bldE Es n r) : n = 0 ∧ r = 0 := by
  have h64 := h.n64
  rw [kvs_len] at h64
  refine bldE.one hb ?_
  unfold bldE
  rw [if_neg (by omega)]
  exact .inl ⟨good_fL h, rfl, rfl⟩

end Go.Proofs.Ytaammajaidgdlaa

namespace Go.Proofs.Ytaammajaidgdlaa
open Go.RowKit

theorem same0 {zs : List Int} (h : (bRes zs).2.1 = 0) (z8 : B8 zs) {Es : List Ent} (hk : kvs Es = (bRes zs).1) : Good (kvs Es) ∧ 0 < Es.length ∧ blk (kvs Es) = zs := by
  obtain ⟨g1, g2, g3, _⟩ := bRes_back z8 h
  rw [← hk] at g1 g2 g3
  rw [kvs_len] at g2
  exact ⟨g1, g2, g3⟩

set_option maxRecDepth 100000 in
set_option maxHeartbeats 3200000 in
theorem blockTrips_any (a : Option Addr) (b o l c : Nat) (L : List Ent) (a1 : Option Addr) (l1 c1 : Nat) (zs : List Int) (w : World) (hl : L.length = l) (hm : l ≤ 140737488351232) (ha : 0 < l → a = some ⟨b, o, none⟩) (hE : Ens w b o L)
    (hl1 : zs.length = l1) (hm1 : l1 ≤ 140737488351232) (hcl : l1 ≤ c1) (na : a1 = none → l1 = 0 ∧ c1 = 0) (hr : Row w .u8 a1 zs) (z8 : B8 zs) :
    Calls Try.prog 7 #[.slice a l c, .slice a1 l1 c1] w fun e w' => e = .returned (.bool true) ∧ Below w.heap.size w w' := by
  have HE := hide (fun (W : World) (h : Below w.heap.size w W) => hE.below h)
  have HR := hide (fun (W : World) (h : Below w.heap.size w W) => hr.below2 h)
  have HA := hide ha
  have HNA := hide na
  have HE0 := hide hE
  clear hE hr ha na
  go_enter Try.func7, Try.ntmps7
  go_wp2_with fail
  refine (lives_any _).mono ?_
  rintro e w1 ⟨rfl, t1⟩
  have T1 := hide t1
  clear t1
  go_wp2_with fail
  refine (build_any a b o l c L w1 hl hm HA.out (HE.out w1 T1.out)).mono ?_
  rintro e w2 ⟨u, n, r, rfl, hB, hO, b2⟩
  have T2 := hide (T1.out.trans (b2.mono T1.out.size))
  obtain ⟨nz, hnz⟩ : ∃ nz, (bldL L r).length = nz := ⟨_, rfl⟩
  obtain ⟨a2, c2, rfl, hn2, hc2, _⟩ := hO.sliceN hnz
  have O2 := hide hO
  have HBE := hide hB
  have HNZ := hide hnz
  have HN2 := hide hn2
  clear hB hO b2 hnz hn2
  go_upto_if 28 with fail
  go_cut [5] (fun s5 wx => s5 = .bool true ∧ Hid (Below w.heap.size w wx))
  case first =>
    by_cases hr0 : r = 0
    · subst hr0
      obtain ⟨hg, hp, hn0⟩ := bldE.good HE0.out HBE.out
      clear hn0
      have hbl : bldL L 0 = blk (kvs L) := by unfold bldL; rw [if_pos rfl]
      have hO := O2.out
      have hnz := HNZ.out
      rw [hbl] at hO hnz
      have hlen := blk_len hg
      rw [hnz] at hlen
      have hres := bRes_blk hg hp [] B8.nil
      rw [List.append_nil, if_pos rfl] at hres
      have hRD := hide (bread_any a2 nz c2 (blk (kvs L)) w2 hnz (by omega) hc2 HN2.out hO.row (blk_b8 hg))
      have HRS := hide hres
      have HG := hide hg
      clear hO hnz hbl hres hp hg
      go_wp2_with fail
      refine hRD.out.mono ?_
      rintro e w3 ⟨b3, ⟨h0, ga, Es, rfl, hEl, hkv⟩ | ⟨h0, _⟩⟩
      · rw [HRS.out] at hkv
        have hkv' : kvs Es = kvs L := hkv
        have hEsl : Es.length = l := by rw [← kvs_len, hkv', kvs_len, hl]
        have T3 := hide (T2.out.trans (b3.mono T2.out.size))
        have HEN := hide (hEl.ens (by rw [hkv']; exact HG.out))
        have HKV := hide hkv'
        rw [hEsl]
        clear b3 hEl hkv hkv' hRD
        go_wp2_with fail
        refine (sameall_ens (some ⟨ga, 0, none⟩) a ga 0 l b o l c Es L w3 hEsl hl HKV.out hm (fun _ => rfl) HA.out HEN.out (HE.out w3 T3.out)).mono ?_
        rintro e w4 ⟨rfl, b4⟩
        have T4 := hide (T3.out.trans (b4.mono T3.out.size))
        have i1 : ¬ (65535 : Int) < (nz : Int) := by omega
        clear b4
        go_wp2_with fail
        go_meet
        exact ⟨rfl, T4.out⟩
      · exact absurd (by rw [HRS.out]) h0
    · have hne : (r == 0) = false := by simp [hr0]
      go_wp2_with fail
      go_meet
      exact ⟨rfl, T2.out⟩
  case rest =>
  obtain ⟨rfl, HB⟩ := hcut
  rename World => w5
  clear O2 HBE HNZ T2 T1
  have hRD := hide (bread_any a1 l1 c1 zs w5 hl1 (by omega) hcl HNA.out (HR.out w5 HB.out) z8)
  go_wp2_with fail
  refine hRD.out.mono ?_
  rintro e w6 ⟨b6, ⟨h0, ga, Es, rfl, hEl, hkv⟩ | ⟨h0, rfl⟩⟩
  · obtain ⟨hg, hp, hbk⟩ := same0 h0 z8 hkv
    have T6 := hide (HB.out.trans (b6.mono HB.out.size))
    have hEn := hEl.ens hg
    have h64 := hg.n64
    rw [kvs_len] at h64
    have HBD := hide (build_any (some ⟨ga, 0, none⟩) ga 0 Es.length Es.length Es w6 rfl (by omega) (fun _ => rfl) hEn)
    have HG := hide hg
    have HP := hide hp
    have HBK := hide hbk
    clear b6 hEl hkv hRD hg hp hbk hEn
    generalize hEsl : Es.length = ne at *
    go_wp2_with fail
    refine HBD.out.mono ?_
    rintro e w7 ⟨u7, n7, r7, rfl, hB7, hO7, b7⟩
    obtain ⟨rfl, rfl⟩ := good_bld HG.out (by rw [hEsl]; exact HP.out) hB7
    have hbl : bldL Es 0 = zs := by unfold bldL; rw [if_pos rfl, HBK.out]
    rw [hbl] at hO7
    obtain ⟨a7, c7, rfl, _⟩ := hO7.sliceN hl1
    have T7 := hide (T6.out.trans (b7.mono T6.out.size))
    have SM := hide (sameq a7 a1 l1 c7 c1 zs w7 (by unfold maxLen; omega) hl1 hO7.row (HR.out w7 T7.out))
    clear hB7 hO7 b7 hbl HBD
    go_wp2_with fail
    refine SM.out.mono ?_
    rintro e w8 ⟨rfl, m, hw⟩
    have T8 : Hid (Below w.heap.size w w8) := by rw [hw]; exact below_of_drewN T7.out m
    clear hw
    go_wp2_with fail
    go_ret
    exact ⟨rfl, T8.out⟩
  · have hne : ((bRes zs).2.1 == 0) = false := by simp [h0]
    have T6 := hide (HB.out.trans (b6.mono HB.out.size))
    generalize (bRes zs).2.1 = er at *
    generalize (bRes zs).2.2 = pl at *
    clear b6 hRD
    go_wp2_with fail
    go_ret
    exact ⟨rfl, T6.out⟩

end Go.Proofs.Ytaammajaidgdlaa
