/- Two lists of entries held against one another; entries that were read as a list of them. -/
import Derived.Test.YtjnldmbjeiejdaaG39
import Derived.Test.YtjnldmbjeiejdaaG43
namespace Go.Proofs.Ytjnldmbjeiejdaa
open Go.RowKit

theorem kvs_at {C L : List Ent} (h : kvs C = kvs L) (i : Nat) (h1 : i < C.length) (h2 : i < L.length) : C[i].ks = L[i].ks ∧ C[i].vs = L[i].vs := by
  have e : (kvs C)[i]? = (kvs L)[i]? := by rw [h]
  simp only [kvs, List.getElem?_map, List.getElem?_eq_getElem h1, List.getElem?_eq_getElem h2, Option.map_some, Option.some.injEq, Prod.mk.injEq] at e
  exact e

set_option maxRecDepth 100000 in
set_option maxHeartbeats 3200000 in
theorem sameall_ens (a1 a2 : Option Addr) (g o1 cap b o l c : Nat) (C L : List Ent) (w : World) (hCl : C.length = l) (hl : L.length = l) (hk : kvs C = kvs L) (hm : l ≤ 140737488351232) (ha1 : 0 < l → a1 = some ⟨g, o1, none⟩) (ha : 0 < l → a2 = some ⟨b, o, none⟩) (hC : Ens w g o1 C) (hE : Ens w b o L) :
    Calls Try.prog 20 #[.slice a1 l cap, .slice a2 l c] w fun e w' => e = .returned (.bool true) ∧ Below w.heap.size w w' := by
  have HE := hide (fun (W : World) (h : Below w.heap.size w W) => hE.below h)
  have HC := hide (fun (W : World) (h : Below w.heap.size w W) => hC.below h)
  have hg : 0 < l → g < w.heap.size := fun h => hC.lt (by omega)
  have hb : 0 < l → b < w.heap.size := fun h => hE.lt (by omega)
  clear hE hC
  go_enter Try.func20, Try.ntmps20
  go_wp2
  go_loopw [5] (fun q wr => ∃ k : Nat, k ≤ l ∧ q = .int .i64 (k : Int) ∧ Hid (Below w.heap.size w wr)) (fun q _ => l - (intOf q).toNat)
  case atStart => exact ⟨0, by omega, rfl, Below.refl _ _⟩
  case round =>
    obtain ⟨k, hkk, rfl, HB⟩ := hrel
    by_cases hlt : k < l
    · obtain rfl := ha (by omega)
      obtain rfl := ha1 (by omega)
      replace hb := hb (by omega)
      replace hg := hg (by omega)
      have hkC : k < C.length := by omega
      have hkL : k < L.length := by omega
      have hen := HE.out wr HB.out
      have hcp := HC.out wr HB.out
      have e1 := kvs_at hk k hkC hkL
      have ok := hen.ok k hkL
      have ok1 := hcp.ok k hkC
      have d0 := hcp.at0 k hkC
      have d1 := hcp.at1 k hkC
      have c0 := hen.at0 k hkL
      have c1 := hen.at1 k hkL
      generalize C[k] = cn at *
      generalize L[k] = en at *
      unfold Ent.kv at c0 d0
      unfold Ent.vv at c1 d1
      have q1 := ok1.k
      have q2 := ok1.v
      rw [e1.1] at d0 q1
      rw [e1.2] at d1 q2
      have SM := hide (rsame_eq cn.ka en.ka cn.va en.va en.ks.length cn.kc en.kc en.vs.length cn.vc en.vc en.ks en.vs wr.drew rfl rfl (show Row wr .u8 _ _ from q1) ok.k (show Row wr .u8 _ _ from q2) ok.v)
      have i1 : (k : Int) < (l : Int) := by omega
      clear hen hcp e1 ok ok1 q1 q2 hk
      go_wp2_with fail
      have hbr : b < wr.heap.size := by have := HB.out.size; omega
      have hgr : g < wr.heap.size := by have := HB.out.size; omega
      go_region_held3 (fun W => W.cell? ⟨g, o1 + k * 2, none⟩ = some (.slice cn.ka en.ks.length cn.kc) ∧ W.cell? ⟨g, o1 + k * 2 + 1, none⟩ = some (.slice cn.va en.vs.length cn.vc) ∧ W.cell? ⟨b, o + k * 2, none⟩ = some (.slice en.ka en.ks.length en.kc) ∧ W.cell? ⟨b, o + k * 2 + 1, none⟩ = some (.slice en.va en.vs.length en.vc)) (go_keep) (first
        | (go_at_call 46; refine SM.out.mono ?_; rintro e w2 ⟨rfl, b2⟩; have B2 : Hid (Below wr.heap.size wr w2) := ⟨b2.os, b2.tape, b2.output, b2.size, b2.block⟩; have q0 := (b2.cell (p := ⟨g, o1 + k * 2, none⟩) hgr).trans d0; have q1 := (b2.cell (p := ⟨g, o1 + k * 2 + 1, none⟩) hgr).trans d1; have q2 := (b2.cell (p := ⟨b, o + k * 2, none⟩) hbr).trans c0; have q3 := (b2.cell (p := ⟨b, o + k * 2 + 1, none⟩) hbr).trans c1; clear b2)
        | fail)
      have T2 : Hid (Below w.heap.size w w2) := HB.out.trans (B2.out.mono HB.out.size)
      clear q0 q1 q2 q3 d0 d1 c0 c1
      go_wp2
      go_roundw
      case rel => exact ⟨k + 1, by omega, by go_num, T2⟩
      case measure => simp [intOf]; omega
    · have i1 : ¬ (k : Int) < (l : Int) := by omega
      go_wp2
      go_ret
      exact ⟨rfl, HB.out⟩

theorem own_ok {W : World} {N : Nat} {a : Option Addr} {n c : Nat} {zs : List Int} (h : OwnB W N 5 (.slice a n c) zs) (hn : zs.length = n) : Row W .u8 a zs ∧ (a = none → n = 0 ∧ c = 0) ∧ n ≤ c := by
  obtain ⟨a', c', h1, h2, h3, _⟩ := h.sliceN hn
  cases h1
  exact ⟨h.row, h2, h3⟩
theorem good_at {Es : List Ent} (h : Good (kvs Es)) (i : Nat) (hi : i < Es.length) : 1 ≤ Es[i].ks.length ∧ Es[i].ks.length ≤ 64 ∧ Es[i].vs.length ≤ 256 ∧ B8 Es[i].ks ∧ B8 Es[i].vs := by
  have hi' : i < (kvs Es).length := by rw [kvs_len]; exact hi
  have h1 := h.k1 i hi'
  have h2 := h.v1 i hi'
  have h3 := h.k8 i hi'
  have h4 := h.v8 i hi'
  rw [kvs_ky Es i hi] at h1 h3
  rw [kvs_vl Es i hi] at h2 h4
  exact ⟨h1.1, h1.2, h2, h3, h4⟩
/-- Entries that were read are a list of entries. -/
theorem ElOk.ens {W : World} {N ga : Nat} {Es : List Ent} (h : ElOk W N ga Es) (hg : Good (kvs Es)) : Ens W ga 0 Es := by
  obtain ⟨cur, h1, h2, h3⟩ := h.eb
  refine ⟨fun i hi => ?_, fun i hi => ?_, fun i hi => ?_⟩
  · rw [Nat.zero_add, cell_of_row _ _ _ _ _ _ h1]; exact (h3 i hi).1
  · rw [Nat.zero_add, cell_of_row _ _ _ _ _ _ h1]; exact (h3 i hi).2
  · obtain ⟨o1, o2⟩ := h.ok i hi
    obtain ⟨g1, g2, g3, g4, g5⟩ := good_at hg i hi
    obtain ⟨r1, r2, r3⟩ := own_ok (a := Es[i].ka) (n := Es[i].ks.length) (c := Es[i].kc) o1 rfl
    obtain ⟨s1, s2, s3⟩ := own_ok (a := Es[i].va) (n := Es[i].vs.length) (c := Es[i].vc) o2 rfl
    exact ⟨r1, s1, r2, s2, r3, s3, g4, g5, by omega, by omega⟩
theorem chk_ok {k v : Nat} (h1 : 1 ≤ k) (h2 : k ≤ 64) (h3 : v ≤ 256) : chkE k v = 0 := by
  unfold chkE keyE valE
  rw [if_neg (show ¬ (k < 1 ∨ 64 < k) by omega)]
  simp
  omega
/-- Entries that may be are sorted. -/
theorem good_fL {Es : List Ent} (h : Good (kvs Es)) : ∀ i, i < Es.length → fL Es i = 0 := by
  intro i hi
  obtain ⟨g1, g2, g3, _⟩ := good_at h i hi
  have hc := chk_ok g1 g2 g3
  by_cases h0 : i = 0
  · subst h0; exact fL_zero hi hc
  · rw [fL_succ hi (by omega) hc, if_pos ?_]
    have := h.up (i - 1) (by rw [kvs_len]; omega)
    rw [show i - 1 + 1 = i by omega, kvs_ky Es i hi, kvs_ky Es (i - 1) (by omega)] at this
    exact this
theorem good_bld {Es : List Ent} (h : Good (kvs Es)) (h0 : 0 < Es.length) {n : Nat} {r : Int} (hb : bldE Es n r) : n = 0 ∧ r = 0 := by
  have h64 := h.n64
  rw [kvs_len] at h64
  refine bldE.one hb ?_
  unfold bldE
  rw [if_neg (by omega)]
  exact .inl ⟨good_fL h, rfl, rfl⟩

end Go.Proofs.Ytjnldmbjeiejdaa
