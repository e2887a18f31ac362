/- The document's SameAll and Kept, of Copy's entries. -/
import Derived.Test.YtepjblmjjegpgaaGreatW31
import Derived.Test.YtepjblmjjegpgaaGreatW21
namespace Go.Proofs.YtepjblmjjegpgaaGreat
open Go.RowKit
set_option maxRecDepth 100000

theorem Cpd.lt {W : World} {N g : Nat} {C L : List Ent} (h : Cpd W N g C L) : g < W.heap.size := by
  obtain ⟨m, hm⟩ := h.mark
  exact World.block_lt_of_cell? W ⟨g, C.length * 2, none⟩ hm
theorem Cpd.below {W W' : World} {N g : Nat} {C L : List Ent} (h : Cpd W N g C L) (hb : Below W.heap.size W W') : Cpd W' N g C L := by
  have hg := h.lt
  obtain ⟨m, hm⟩ := h.mark
  exact ⟨h.len, fun i hi => (hb.cell (p := ⟨g, i * 2, none⟩) hg).trans (h.at0 i hi), fun i hi => (hb.cell (p := ⟨g, i * 2 + 1, none⟩) hg).trans (h.at1 i hi), fun i hi hi' => (h.each i hi hi').below hb, h.gN, m, (hb.cell (p := ⟨g, C.length * 2, none⟩) hg).trans hm⟩

set_option maxRecDepth 100000 in
set_option maxHeartbeats 3200000 in
theorem sameall_yes (a : Option Addr) (N g cap b o l c : Nat) (C L : List Ent) (w : World) (hl : L.length = l) (hm : l ≤ 140737488351232) (hC : Cpd w N g C L) (ha : 0 < l → a = some ⟨b, o, none⟩) (hE : Ens w b o L) (hb : 0 < l → b < w.heap.size) :
    Calls Tryz.prog 32 #[.slice (some ⟨g, 0, none⟩) l cap, .slice a l c] w fun e w' => e = .returned (.bool true) ∧ Below w.heap.size w w' := by
  have HE := hide (fun (W : World) (h : Below w.heap.size w W) => hE.below h)
  have HC := hide (fun (W : World) (h : Below w.heap.size w W) => hC.below h)
  have hg := hC.lt
  have hCl := hC.len
  clear hE hC
  go_enter Tryz.func32, Tryz.ntmps32
  go_wp2
  go_loopw [5] (fun q wr => ∃ k : Nat, k ≤ l ∧ q = .int .i64 (k : Int) ∧ Hid (Below w.heap.size w wr)) (fun q _ => l - (intOf q).toNat)
  case atStart => exact ⟨0, by omega, rfl, Below.refl _ _⟩
  case round =>
    obtain ⟨k, hk, rfl, HB⟩ := hrel
    by_cases hlt : k < l
    · obtain rfl := ha (by omega)
      replace hb := hb (by omega)
      have hkC : k < C.length := by omega
      have hkL : k < L.length := by omega
      have hen := HE.out wr HB.out
      have hcp := HC.out wr HB.out
      have e1 := hcp.each k hkC hkL
      have ok := hen.ok k hkL
      have d0 := hcp.at0 k hkC
      have d1 := hcp.at1 k hkC
      have c0 := hen.at0 k hkL
      have c1 := hen.at1 k hkL
      generalize C[k] = cn at *
      generalize L[k] = en at *
      unfold Ent.kv at c0 d0
      unfold Ent.vv at c1 d1
      rw [e1.ks] at d0
      rw [e1.vs] at d1
      obtain ⟨mk, hmk, Mk, _⟩ := e1.k
      obtain ⟨mv, hmv, Mv, _⟩ := e1.v
      rw [hmk] at d0
      rw [hmv] at d1
      have SM := hide (rsame_eq (some ⟨mk, 0, none⟩) en.ka (some ⟨mv, 0, none⟩) en.va en.ks.length cn.kc en.kc en.vs.length cn.vc en.vc en.ks en.vs wr.drew rfl rfl (show Row wr .u8 _ _ from Mk.row) ok.k (show Row wr .u8 _ _ from Mv.row) ok.v)
      have i1 : (k : Int) < (l : Int) := by omega
      clear hen hcp e1 ok Mk Mv hmk hmv
      go_wp2_with fail
      have hbr : b < wr.heap.size := by have := HB.out.size; omega
      have hgr : g < wr.heap.size := by have := HB.out.size; omega
      go_region_held3 (fun W => W.cell? ⟨g, k * 2, none⟩ = some (.slice (some ⟨mk, 0, none⟩) en.ks.length cn.kc) ∧ W.cell? ⟨g, k * 2 + 1, none⟩ = some (.slice (some ⟨mv, 0, none⟩) en.vs.length cn.vc) ∧ W.cell? ⟨b, o + k * 2, none⟩ = some (.slice en.ka en.ks.length en.kc) ∧ W.cell? ⟨b, o + k * 2 + 1, none⟩ = some (.slice en.va en.vs.length en.vc)) (go_keep) (first
        | (go_at_call 61; refine SM.out.mono ?_; rintro e w2 ⟨rfl, b2⟩; have B2 : Hid (Below wr.heap.size wr w2) := ⟨b2.os, b2.tape, b2.output, b2.size, b2.block⟩; have q0 := (b2.cell (p := ⟨g, k * 2, none⟩) hgr).trans d0; have q1 := (b2.cell (p := ⟨g, k * 2 + 1, none⟩) hgr).trans d1; have q2 := (b2.cell (p := ⟨b, o + k * 2, none⟩) hbr).trans c0; have q3 := (b2.cell (p := ⟨b, o + k * 2 + 1, none⟩) hbr).trans c1; clear b2)
        | fail)
      have T2 : Hid (Below w.heap.size w w2) := HB.out.trans (B2.out.mono HB.out.size)
      clear q0 q1 q2 q3 d0 d1 c0 c1
      go_wp2
      go_roundw
      case rel => exact ⟨k + 1, by omega, by go_num, T2⟩
      case measure => simp [intOf]; omega
    · have i1 : ¬ (k : Int) < (l : Int) := by omega
      go_wp2
      go_ret
      exact ⟨rfl, HB.out⟩

set_option maxRecDepth 100000 in
set_option maxHeartbeats 3200000 in
theorem rkept_yes (a : Option Addr) (N g cap b o l c : Nat) (C L : List Ent) (w : World) (hl : L.length = l) (hm : l ≤ 140737488351232) (hcap : l + 1 ≤ cap) (hC : Cpd w N g C L) (ha : 0 < l → a = some ⟨b, o, none⟩) (hE : Ens w b o L) (hb : 0 < l → b < w.heap.size) :
    Calls Tryz.prog 17 #[.slice (some ⟨g, 0, none⟩) l cap, .slice a l c] w fun e w' => e = .returned (.bool true) ∧ Below w.heap.size w w' := by
  have SA := hide (sameall_yes a N g cap b o l c C L w hl hm hC ha hE hb)
  have HC := hide (fun (W : World) (h : Below w.heap.size w W) => hC.below h)
  have ZL := hide (fun i (h : i < L.length) => And.intro (hE.ok i h).zk (hE.ok i h).zv)
  have hCl := hC.len
  clear hE hC
  go_enter Tryz.func17, Tryz.ntmps17
  go_wp2_with fail
  refine SA.out.mono ?_
  rintro e w1 ⟨rfl, b1⟩
  have HB := hide b1
  clear b1
  go_wp2
  go_loopw [6] (fun q wr => ∃ k : Nat, k ≤ l ∧ q = .int .i64 (k : Int) ∧ Hid (Below w.heap.size w wr)) (fun q _ => l - (intOf q).toNat)
  case atStart => exact ⟨0, by omega, rfl, HB⟩
  case round =>
    clear HB
    obtain ⟨k, hk, rfl, HB⟩ := hrel
    by_cases hlt : k < l
    · have hkC : k < C.length := by omega
      have hkL : k < L.length := by omega
      have hcp := HC.out wr HB.out
      have e1 := hcp.each k hkC hkL
      have ⟨z1, z2⟩ := ZL.out k hkL
      have d0 := hcp.at0 k hkC
      have d1 := hcp.at1 k hkC
      generalize C[k] = cn at *
      generalize L[k] = en at *
      unfold Ent.kv at d0
      unfold Ent.vv at d1
      rw [e1.ks, e1.kc] at d0
      rw [e1.vs, e1.vc] at d1
      obtain ⟨mk, hmk, Mk, _⟩ := e1.k
      obtain ⟨mv, hmv, Mv, _⟩ := e1.v
      rw [hmk] at d0
      rw [hmv] at d1
      have m0 := Mk.m
      have m1 := Mv.m
      generalize en.ks.length = lk at *
      generalize en.vs.length = lv at *
      have i1 : (k : Int) < (l : Int) := by omega
      clear hcp e1 Mk Mv hmk hmv
      go_wp2
      go_roundw
      case rel => exact ⟨k + 1, by omega, by go_num, HB⟩
      case measure => simp [intOf]; omega
    · have i1 : ¬ (k : Int) < (l : Int) := by omega
      obtain ⟨m, hmk⟩ := (HC.out wr HB.out).mark
      have hcl : C.length = l := by omega
      rw [hcl] at hmk
      clear hcl
      go_wp2
      go_ret
      exact ⟨rfl, HB.out⟩

end Go.Proofs.YtepjblmjjegpgaaGreat
