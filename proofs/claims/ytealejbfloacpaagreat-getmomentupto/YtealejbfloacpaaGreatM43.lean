/- Texts of one's own. -/
import Derived.Test.YtealejbfloacpaaGreatM42
import Derived.Test.YtealejbfloacpaaGreatM38
namespace Go.Proofs.YtealejbfloacpaaGreat
open Go.RowKit
set_option maxRecDepth 100000
theorem lvs_ne {s : AS} {ck : NP → Int} : ∀ (f : Nat) (lev id : Int) (outs ls : List Chn), s.lvs ck f lev id outs = .inr ls → ls ≠ []
 | 0, _, _, _, _, h => by rw [AS.lvs] at h; cases h
 | f + 1, lev, id, outs, ls, h => by
  rw [lvs_succ] at h
  unfold AS.step at h
  split at h
  ·cases h
  ·split at h
   ·cases h
   ·split at h
    ·cases h; simp
    ·exact lvs_ne f _ _ _ _ h
theorem look_ne {s : AS} {nd lf inn fl bk : Int} {ls : List Chn} (h : s.look nd lf inn fl bk = .inr ls) : ls ≠ [] := by
 unfold AS.look at h
 split at h
 ·split at h
  ·cases h
  ·exact lvs_ne _ _ _ _ _ h
 ·cases h
def sumN (ls : List Chn) (i : Nat) : Nat := (idsOf (ls.take i)).length
theorem sumN_succ {ls : List Chn} {i : Nat} (h : i < ls.length) : sumN ls (i + 1) = sumN ls i + ls[i].length := by
 unfold sumN
 rw [List.take_succ_eq_append_getElem h, ids_snoc, List.length_append, List.length_map]
theorem sumN_le (ls : List Chn) (i : Nat) : sumN ls i ≤ (idsOf ls).length := by
 unfold sumN
 have h : idsOf ls = idsOf (ls.take i) ++ idsOf (ls.drop i) := by
  unfold idsOf
  rw [← List.flatMap_append, List.take_append_drop]
 rw [h, List.length_append]
 omega
def sumE (s : AS) (c : Chn) (i : Nat) : Nat := ((c.take i).map fun x => (s.n x.1).ks.length).sum
theorem sumE_succ {s : AS} {c : Chn} {i : Nat} (h : i < c.length) : sumE s c (i + 1) = sumE s c i + (s.n c[i].1).ks.length := by
 unfold sumE
 rw [List.take_succ_eq_append_getElem h, List.map_append, List.sum_append, List.map_cons, List.map_nil, List.sum_cons, List.sum_nil, Nat.add_zero]
theorem set4 {w : World} {b : Nat} {T : TypeId} {x0 x1 x2 x3 x4 x5 : Value} (h : w.heap[b]? = some (.cells #[x0, x1, x2, x3, x4, x5] T (0, 0))) (v : Value) : (w.setCell ⟨b, 4, none⟩ v).heap[b]? = some (.cells #[x0, x1, x2, x3, v, x5] T (0, 0)) := block_setCell h 4 v
theorem set5 {w : World} {b : Nat} {T : TypeId} {x0 x1 x2 x3 x4 x5 : Value} (h : w.heap[b]? = some (.cells #[x0, x1, x2, x3, x4, x5] T (0, 0))) (v : Value) : (w.setCell ⟨b, 5, none⟩ v).heap[b]? = some (.cells #[x0, x1, x2, x3, x4, v] T (0, 0)) := block_setCell h 5 v
set_option maxRecDepth 100000 in
set_option maxHeartbeats 6400000 in
theorem rcheck11_any {W : World} {A : Nat} {F : Nat → Prop} {s : AS} (hp : RX W A F s) (nd lf inn fl bk : Int) :
  Calls Tryz.prog 13 #[.pointer (some ⟨A, 0, none⟩), .agg #[.int .i64 nd, .int .i64 lf, .int .i64 inn, .int .i64 fl, .int .i64 bk]] W (ChP W nd lf inn fl bk s) := by
 obtain ⟨w1, hw1⟩ : ∃ x, x = W.alloc (.cells #[.int .i64 nd, .int .i64 lf, .int .i64 inn, .int .i64 fl, .int .i64 bk] 49) := ⟨_, rfl⟩
 obtain ⟨w2, hw2⟩ : ∃ x, x = w1.alloc (.cells #[.bool false, .int .i64 0, .int .i64 0, .int .i64 0, .int .i64 0, .int .i64 0] 42) := ⟨_, rfl⟩
 have z1 : w1.heap.size = W.heap.size + 1 := by rw [hw1]; simp
 have b1 : Below W.heap.size W w1 := by rw [hw1]; exact (Below.refl _ _).alloc (Nat.le_refl _) _
 have b12 : Below w1.heap.size w1 w2 := by rw [hw2]; exact (Below.refl _ _).alloc (Nat.le_refl _) _
 have G1 : w2.heap[W.heap.size]? = some (.cells #[.int .i64 nd, .int .i64 lf, .int .i64 inn, .int .i64 fl, .int .i64 bk] 49 (0, 0)) := (b12.block _ (by omega)).trans (by rw [hw1]; exact heap_alloc_new W _)
 have G2 : Hid (w2.heap[W.heap.size + 1]? = some (.cells #[.bool false, .int .i64 0, .int .i64 0, .int .i64 0, .int .i64 0, .int .i64 0] 42 (0, 0))) := by show _ = _; rw [← z1, hw2]; exact heap_alloc_new w1 _
 have b2 := b1.trans (b12.mono b1.size)
 have HW2 : Hid ((W.alloc (.cells #[.int .i64 nd, .int .i64 lf, .int .i64 inn, .int .i64 fl, .int .i64 bk] 49)).alloc (.cells #[.bool false, .int .i64 0, .int .i64 0, .int .i64 0, .int .i64 0, .int .i64 0] 42) = w2) := by show _ = _; rw [hw2, hw1]
 have B2 := hide b2
 have HP2 := hide (hp.belowN b2)
 have HLV := hide (rlevels_any HP2.out nd lf inn fl bk)
 obtain ⟨d0, d1, d2, d3, d4⟩ := five_of G1
 have hz2 : W.heap.size + 1 < w2.heap.size := lt_of_block G2.out
 clear hw1 hw2 z1 b1 b12 b2 G1 hp
 go_enter Tryz.func13, Tryz.ntmps13
 go_upto_region 1 with fail
 rw [HW2.out]
 go_wp2_with fail
 refine HLV.out.mono ?_
 rintro e w3 ⟨hb3, ⟨id, er, hR, rfl⟩ | ⟨ls, Q, oa, oc, M, ma, mc, hR, rfl, hrl, hlv⟩⟩
 ·simp only [rpt_form]
  obtain ⟨w4, hw4⟩ : ∃ x, x = w3.alloc (.cells #[.bool false, .int .i64 id, .int .i64 er, .int .i64 0, .int .i64 0, .int .i64 0] 42) := ⟨_, rfl⟩
  have b4 : Below w3.heap.size w3 w4 := by rw [hw4]; exact (Below.refl _ _).alloc (Nat.le_refl _) _
  have G4 : w4.heap[w3.heap.size]? = some (.cells #[.bool false, .int .i64 id, .int .i64 er, .int .i64 0, .int .i64 0, .int .i64 0] 42 (0, 0)) := by rw [hw4]; exact heap_alloc_new w3 _
  have b24 := hb3.trans (b4.mono hb3.size)
  have HRB : Hid (w4.heap[W.heap.size + 1]? = some (.cells #[.bool false, .int .i64 0, .int .i64 0, .int .i64 0, .int .i64 0, .int .i64 0] 42 (0, 0))) := (b24.block _ (by omega)).trans G2.out
  have BWF : Hid (Below W.heap.size W w4) := B2.out.trans (b24.mono B2.out.size)
  have HRE := hide hR
  have HW4 := hide hw4
  obtain ⟨p0, p1, p2, p3, p4, p5⟩ := Six.of G4
  clear hw4 b4 G4 b24 hb3 hR d0 d1 d2 d3 d4
  go_upto_region 2 with fail
  rw [← HW4.out]
  obtain ⟨w9, hw9⟩ : ∃ x, x = six6 w4 (W.heap.size + 1) (.bool false) (.int .i64 id) (.int .i64 er) (.int .i64 0) (.int .i64 0) (.int .i64 0) := ⟨_, rfl⟩
  have HW9 : Hid (w9 = ((((((w4.setCell ⟨W.heap.size + 1, 0, none⟩ (.bool false)).setCell ⟨W.heap.size + 1, 1, none⟩ (.int .i64 id)).setCell ⟨W.heap.size + 1, 2, none⟩ (.int .i64 er)).setCell ⟨W.heap.size + 1, 3, none⟩ (.int .i64 0)).setCell ⟨W.heap.size + 1, 4, none⟩ (.int .i64 0)).setCell ⟨W.heap.size + 1, 5, none⟩ (.int .i64 0))) := hw9
  have U9 : Upd (fun b => b = W.heap.size + 1) w4 w9 := by rw [hw9]; exact six_upd _ _ _ _ _ _ _ _ _ rfl
  have G9 : Hid (w9.heap[W.heap.size + 1]? = some (.cells #[.bool false, .int .i64 id, .int .i64 er, .int .i64 0, .int .i64 0, .int .i64 0] 42 (0, 0))) := by show _ = _; rw [hw9]; exact six_block HRB.out _ _ _ _ _ _
  have B9 : Hid (Below W.heap.size W w9) := BWF.out.trans (U9.below BWF.out.size (fun k hk e => by omega))
  obtain ⟨y0, y1, y2, y3, y4, y5⟩ := Six.of HRB.out
  have F5 := fun j => frozen_of HRB.out j
  clear hw9 U9
  go_wp2_with fail
  (try simp only [Exit.inBlock, Exit.then])
  rw [← HW9.out]
  obtain ⟨q0, q1, q2, q3, q4, q5⟩ := Six.of G9.out
  exact bodyPost_ret (v := .agg #[.bool false, .int .i64 id, .int .i64 er, .int .i64 0, .int .i64 0, .int .i64 0]) (by simp [results, Tryz.results13, go_sem, q0, q1, q2, q3, q4, q5]) rfl ⟨_, rfl, .inl ⟨id, er, HRE.out, rfl⟩, B9.out⟩
 ·simp only [rpt_form]
  have HR := hide hR
  have HRL := hide hrl
  have HLP := hide hlv
  have hne := look_ne hR
  obtain ⟨c, hc⟩ : ∃ c, ls.getLast? = some c := ⟨ls.getLast hne, List.getLast?_eq_some_getLast hne⟩
  have hlen := hrl.len
  have hpos : 0 < Q.length := by rw [hlen]; exact List.length_pos_iff.2 hne
  have hge := ids_ge hlv.ne
  have hml := hlv.met.len
  obtain ⟨g, c', Mf, D, L, hra, hnd, hfo, hflt⟩ := HP2.out
  have HLS : Hid (L.length = s.sl.length) := ndsR_lenS hnd
  have HNA : Hid (∀ i (hi : i < L.length) (id : Int), id = (i : Int) + 1 → s.n id = L[i].n.p) := fun i hi id hid => (ndsR_at hnd hi hid).2
  have hsl : L.length ≤ 65536 := hra.n_le
  have hnids : (idsOf ls).length ≤ 65536 := by have := HLS.out; omega
  obtain ⟨q, hq⟩ : ∃ q, Q.length = q := ⟨_, rfl⟩
  rw [hq] at hpos ⊢
  have HQ := hide hq
  have HQL := hide hlen
  have hqz : q ≤ 65536 := by omega
  obtain ⟨w4, hw4⟩ : ∃ x, x = w3.alloc (.cells #[.bool true, .int .i64 0, .int .i64 0, .int .i64 (q : Nat), .int .i64 0, .int .i64 0] 42) := ⟨_, rfl⟩
  have b4 : Below w3.heap.size w3 w4 := by rw [hw4]; exact (Below.refl _ _).alloc (Nat.le_refl _) _
  have G4 : w4.heap[w3.heap.size]? = some (.cells #[.bool true, .int .i64 0, .int .i64 0, .int .i64 (q : Nat), .int .i64 0, .int .i64 0] 42 (0, 0)) := by rw [hw4]; exact heap_alloc_new w3 _
  have b24 := hb3.trans (b4.mono hb3.size)
  obtain ⟨B6, hB6⟩ : ∃ B6, w3.heap.size = B6 := ⟨_, rfl⟩
  have h23 := hb3.size
  rw [hB6] at G4 h23
  have U5 : Upd (fun k => k = B6) w4 w4 := Upd.refl _ _
  have G5 := hide G4
  have HFL2 : Hid (∀ k, F k → k < w2.heap.size ∧ k ≠ B6) := fun k hk => by
   have := hflt k hk
   have h2 : w2.heap.size ≤ B6 := h23
   exact ⟨this, by omega⟩
  have HRL4 := hide (hrl.below b4)
  have HWX : Hid (∀ Y, Upd (fun k => k = B6) w4 Y → RLS Y w2.heap.size F ls Q oa oc M ma mc ∧ RA Y A g c' Mf D s.nodes s.root L ∧ Y.heap[W.heap.size + 1]? = some (.cells #[.bool false, .int .i64 0, .int .i64 0, .int .i64 0, .int .i64 0, .int .i64 0] 42 (0, 0)) ∧ Below W.heap.size W Y) := fun Y hu => by
   have hA : RA w4 A g c' Mf D s.nodes s.root L := hra.upd (S := Noth) (Upd.of_below b24 _) (fun _ _ e => e)
   refine ⟨HRL4.out.upd hu (fun k cs T hk hb => ?_) (fun k hk e => (HFL2.out k hk).2 e), hA.upd hu (fun k hk e => (HFL2.out k (hfo k hk)).2 e), hu.heap ((b24.block _ (by omega)).trans G2.out) (by omega), (B2.out.trans (b24.mono B2.out.size)).trans (hu.below (by have := B2.out.size; have := b24.size; omega) (fun k hk e => by have := B2.out.size; omega))⟩
   have hk' : k = B6 := hk
   rw [hk', G4] at hb
   cases hb
   exact ⟨by decide, by decide, by decide⟩
  have HU5 := hide U5
  have HW5 := hide hw4
  have HB6 : Hid (w3.heap.size = B6) := hB6
  have HB2 : Hid (w2.heap.size ≤ B6) := h23
  have HL6 : Hid (B6 < w4.heap.size) := lt_of_block G5.out
  clear hw4 b4 G4 b24 hb3 hR hrl hlv hra hnd hfo hflt U5 hq hlen d0 d1 d2 d3 d4 HLV HP2
  go_upto_region 5 with fail
  first | rw [hB6, ← HW5.out] | rw [← HW5.out]
  clear hB6
  go_wp2_with fail
  go_loopw [7] (fun q7 wr => ∃ i : Nat, i ≤ q ∧ q7 = .int .i64 (i : Int) ∧ Hid (wr.heap[B6]? = some (.cells #[.bool true, .int .i64 0, .int .i64 0, .int .i64 (q : Nat), .int .i64 (sumN ls i : Nat), .int .i64 0] 42 (0, 0)) ∧ Upd (fun k => k = B6) w4 wr)) (fun q7 _ => q - (intOf q7).toNat)
  case atStart => exact ⟨0, Nat.zero_le _, rfl, ⟨G5.out, HU5.out⟩⟩
  case round =>
   obtain ⟨i, hi, rfl, HS⟩ := hrel
   rename World => wr
   clear G5
   obtain ⟨hbl, hup⟩ := HS.out
   obtain ⟨hrl, hra, hrb, hbw⟩ := HWX.out wr hup
   have HBL := hide hbl
   have HUP := hide hup
   by_cases hlt : i < q
   ·have j1 : (i : Int) < (q : Int) := by omega
    have hiQ : i < Q.length := by rw [HQ.out]; exact hlt
    have hil : i < ls.length := by rw [← HQL.out]; exact hiQ
    obtain ⟨go, hoa, hc0, hc1⟩ := hrl.at_ i hiQ
    clear hc1
    subst hoa
    have hqi := (hrl.q i hiQ hil).is
    obtain ⟨⟨⟨ja, jc, js⟩, tx⟩, hqp⟩ : ∃ x, Q[i] = x := ⟨_, rfl⟩
    rw [hqp] at hc0 hqi
    simp only [IL.v] at hc0 hqi
    have hjl : js.length = ls[i].length := by rw [hqi, List.length_map]
    have hsu := sumN_succ hil
    have hsl2 := sumN_le ls (i + 1)
    obtain ⟨jl, hjl2⟩ : ∃ jl, js.length = jl := ⟨_, rfl⟩
    rw [hjl2] at hc0 hjl
    obtain ⟨n, hn⟩ : ∃ n, sumN ls i = n := ⟨_, rfl⟩
    rw [hn] at hbl hsu HBL
    have hs4 : wr.cell? ⟨B6, 4, none⟩ = some (.int .i64 (n : Nat)) := (Six.of hbl).2.2.2.2.1
    have hf4 : wr.frozen? ⟨B6, 4, none⟩ = false := frozen_of hbl 4
    have x1 : IntKind.i64.wrap ((n : Int) + (jl : Int)) = (n : Int) + (jl : Int) := by rw [IntKind.wrap_i64]; omega
    have HN1 : Hid ((n : Int) + (jl : Int) = ((sumN ls (i + 1) : Nat) : Int)) := by show _ = _; rw [hsu, ← hjl]; omega
    clear hbl hup hrl hra hrb hbw HS hqi hqp hjl hjl2 hsu hsl2 hn hiQ hil
    go_wp2_with fail
    go_region
    go_wp2_with fail
    go_roundw
    case rel => exact ⟨i + 1, by omega, by go_num, ⟨by rw [HN1.out]; exact set4 HBL.out _, (HUP.out.setCell ⟨B6, 4, none⟩ _ (fun _ => rfl)).drew⟩⟩
    case measure => simp [intOf]; omega
   ·have j1 : ¬ (i : Int) < (q : Int) := by omega
    obtain rfl : i = q := by omega
    have hNall : sumN ls i = (idsOf ls).length := by unfold sumN; rw [List.take_of_length_le (by rw [← HQL.out, HQ.out]; exact Nat.le_refl _)]
    rw [hNall] at hbl HBL
    obtain ⟨nn, hnn⟩ : ∃ nn, (idsOf ls).length = nn := ⟨_, rfl⟩
    rw [hnn] at hbl HBL
    have HNN := hide hnn
    obtain ⟨p, hp⟩ : ∃ p, i = p + 1 := ⟨i - 1, by omega⟩
    have hpQ : p < Q.length := by rw [HQ.out]; omega
    have hpl : p < ls.length := by rw [← HQL.out]; exact hpQ
    have hlp : ls[p] = c := by
     rw [List.getLast?_eq_getElem?, show ls.length - 1 = p by have := HQL.out; have := HQ.out; omega, List.getElem?_eq_getElem hpl] at hc
     exact Option.some.inj hc
    obtain ⟨go, hoa, hc0, hc1⟩ := hrl.at_ p hpQ
    subst hoa
    have hql := hrl.q p hpQ hpl
    obtain ⟨⟨⟨ja, jc, js⟩, ⟨ta, tc, ts⟩⟩, hqp⟩ : ∃ x, Q[p] = x := ⟨_, rfl⟩
    rw [hqp] at hc0 hc1 hql
    rw [hlp] at hql
    simp only [IL.v, TL.v] at hc0 hc1
    have hjc : js.length = c.length := by have h1 : js = c.map (·.1) := hql.is; rw [h1, List.length_map]
    obtain ⟨jl, hjl⟩ : ∃ jl, js.length = jl := ⟨_, rfl⟩
    obtain ⟨tl, htl⟩ : ∃ tl, ts.length = tl := ⟨_, rfl⟩
    rw [hjl] at hc0 hjc
    rw [htl] at hc1
    have hjz : jl ≤ 65536 := by have := ids_le (List.mem_of_getLast? hc); omega
    have HINc : Hid (∀ x ∈ c, s.inn x.1) := fun x hx => HLP.out.met.inn _ (ids_mem (List.mem_of_getLast? hc) hx)
    have HCX := hide (And.intro hjl hjc)
    have HQLV := hide hql
    have x1 : IntKind.i64.wrap ((i : Int) - 1) = (p : Int) := by rw [IntKind.wrap_i64]; omega
    have x2 : (p : Int) < (i : Int) := by omega
    obtain ⟨w7, hw7⟩ : ∃ x, x = wr.alloc (.cells #[.slice ja jl jc, .slice ta tl tc] 141) := ⟨_, rfl⟩
    have b7 : Below wr.heap.size wr w7 := by rw [hw7]; exact (Below.refl _ _).alloc (Nat.le_refl _) _
    have G7 : w7.heap[wr.heap.size]? = some (.cells #[.slice ja jl jc, .slice ta tl tc] 141 (0, 0)) := by rw [hw7]; exact heap_alloc_new wr _
    obtain ⟨B8, hB8⟩ : ∃ B8, wr.heap.size = B8 := ⟨_, rfl⟩
    rw [hB8] at G7
    have h68 : B6 < B8 := by rw [← hB8]; exact lt_of_block hbl
    have HW7 := hide hw7
    have GB7 : Hid (w7.heap[B6]? = some (.cells #[.bool true, .int .i64 0, .int .i64 0, .int .i64 (i : Nat), .int .i64 (nn : Nat), .int .i64 0] 42 (0, 0))) := (b7.block _ (lt_of_block hbl)).trans hbl
    have HC := hide hc
    have HSTK : Hid (∀ Y, Upd (fun k => k = B6) w7 Y → (Y.heap[B8]? = some (.cells #[.slice ja jl jc, .slice ta tl tc] 141 (0, 0)) ∧ RA Y A g c' Mf D s.nodes s.root L ∧ QLv Y w2.heap.size F (⟨ja, jc, js⟩, ⟨ta, tc, ts⟩) c ∧ Y.heap[W.heap.size + 1]? = some (.cells #[.bool false, .int .i64 0, .int .i64 0, .int .i64 0, .int .i64 0, .int .i64 0] 42 (0, 0)) ∧ Below W.heap.size W Y)) := fun Y hu => by
     have hu' : Upd (fun k => k = B6) w4 Y := (hup.trans (Upd.of_below b7 _)).trans hu
     obtain ⟨h1, h2, h3, h4⟩ := HWX.out Y hu'
     have h5 := h1.q p hpQ hpl
     rw [hqp, hlp] at h5
     exact ⟨hu.heap G7 (by omega), h2, h5, h3, h4⟩
    have HB8 : Hid (wr.heap.size = B8) := hB8
    clear hbl hup hrl hra hrb hbw HS hNall hnn hp hlp hql hqp hjl htl hw7 b7 G7 HUP hc hjc HWX HBL
    go_upto_region 10 with fail
    first | rw [← HW7.out, hB8] | rw [← HW7.out]
    clear hB8
    go_wp2_with fail
    go_loopw [9] (fun q9 wz => ∃ j : Nat, j ≤ jl ∧ q9 = .int .i64 (j : Int) ∧ Hid (wz.heap[B6]? = some (.cells #[.bool true, .int .i64 0, .int .i64 0, .int .i64 (i : Nat), .int .i64 (nn : Nat), .int .i64 (sumE s c j : Nat)] 42 (0, 0)) ∧ Upd (fun k => k = B6) w7 wz ∧ sumE s c j ≤ j * 5864062014667)) (fun q9 _ => jl - (intOf q9).toNat)
    case atStart => exact ⟨0, Nat.zero_le _, rfl, ⟨GB7.out, Upd.refl _ _, Nat.zero_le _⟩⟩
    case round =>
     obtain ⟨j, hj, rfl, HS⟩ := hrel
     rename World => wz
     obtain ⟨hbl, hup, hle⟩ := HS.out
     obtain ⟨g8, hra, hql, hrb, hbw⟩ := HSTK.out wz hup
     have HBL := hide hbl
     have HUP := hide hup
     have t0 := (two_at g8).1
     by_cases hlt : j < jl
     ·have j2 : (j : Int) < (jl : Int) := by omega
      have hjs : j < js.length := by rw [HCX.out.1]; exact hlt
      have hjc : j < c.length := by rw [← HCX.out.2]; exact hlt
      obtain ⟨bi, oi, hia, hic⟩ := (il_of_owns hql.oL).r j hjs
      simp only at hia hic
      subst hia
      have hisx : js.getD j 0 = c[j].1 := by have h1 : js = c.map (·.1) := hql.is; rw [h1]; simp [hjc]
      rw [hisx] at hic
      have hinn := HINc.out c[j] (List.getElem_mem hjc)
      have hse := sumE_succ (s := s) hjc
      obtain ⟨id, hid0⟩ : ∃ id, c[j].1 = id := ⟨_, rfl⟩
      rw [hid0] at hic hinn hse
      obtain ⟨k0, hk0, hid, _⟩ := AS.idx hinn
      have hkL : k0 < L.length := by rw [HLS.out]; exact hk0
      obtain ⟨_, r1, _⟩ := hra.cells
      have f4 := (hra.node6 k0 hkL).2.2.2.1
      have hkz := (hra.sl L[k0] (List.getElem_mem hkL)).n.kz
      have hks : (s.n id).ks.length = L[k0].n.ks.L.length := by rw [HNA.out k0 hkL id hid]; exact TL.p_len _
      obtain ⟨⟨ka, kc, K⟩, hK⟩ : ∃ y, L[k0].n.ks = y := ⟨_, rfl⟩
      rw [hK] at f4 hkz hks
      simp only [TL.v] at f4 hkz hks
      obtain ⟨lk, hlk⟩ : ∃ lk, K.length = lk := ⟨_, rfl⟩
      rw [hlk] at f4 hkz hks
      rw [hks] at hse
      obtain ⟨n, hn⟩ : ∃ n, sumE s c j = n := ⟨_, rfl⟩
      rw [hn] at hbl hse HBL hle
      have hs4 : wz.cell? ⟨B6, 5, none⟩ = some (.int .i64 (n : Nat)) := (Six.of hbl).2.2.2.2.2
      have hf4 : wz.frozen? ⟨B6, 5, none⟩ = false := frozen_of hbl 5
      have x3 : IntKind.i64.wrap (id - 1) = (k0 : Int) := by rw [IntKind.wrap_i64]; omega
      have x4 : (k0 : Int) < (L.length : Int) := by omega
      obtain ⟨ll, hll⟩ : ∃ ll, L.length = ll := ⟨_, rfl⟩
      rw [hll] at r1 x4
      have hlk2 : lk ≤ 5864062014667 := by omega
      have hle2 : n + lk ≤ (j + 1) * 5864062014667 := by rw [Nat.add_mul]; omega
      have hnz : n + lk ≤ 400000000000000000 := Nat.le_trans hle2 (Nat.le_trans (Nat.mul_le_mul_right _ (show j + 1 ≤ 65536 by omega)) (by decide))
      have x5 : IntKind.i64.wrap ((n : Int) + (lk : Int)) = (n : Int) + (lk : Int) := by rw [IntKind.wrap_i64]; omega
      have HN1 : Hid ((n : Int) + (lk : Int) = ((sumE s c (j + 1) : Nat) : Int)) := by show _ = _; rw [hse]; omega
      have HLE2 : Hid (sumE s c (j + 1) ≤ (j + 1) * 5864062014667) := by show _ ≤ _; rw [hse]; exact hle2
      clear hbl hup hle hra hql hrb hbw HS g8 hisx hinn hse hid0 hk0 hid hkL hkz hks hK hlk hn hll hlk2 hle2 hnz hjs hjc
      go_wp2_with fail
      go_region
      go_wp2_with fail
      go_roundw
      case rel => exact ⟨j + 1, by omega, by go_num, ⟨by rw [HN1.out]; exact set5 HBL.out _, (HUP.out.setCell ⟨B6, 5, none⟩ _ (fun _ => rfl)).drew, HLE2.out⟩⟩
      case measure => simp [intOf]; omega
     ·have j2 : ¬ (j : Int) < (jl : Int) := by omega
      obtain rfl : j = jl := by omega
      have hEall : sumE s c j = (c.map fun x => (s.n x.1).ks.length).sum := by unfold sumE; rw [List.take_of_length_le (by rw [← HCX.out.2]; exact Nat.le_refl _)]
      rw [hEall] at hbl
      obtain ⟨en, hen⟩ : ∃ en, (c.map fun x => (s.n x.1).ks.length).sum = en := ⟨_, rfl⟩
      rw [hen] at hbl
      have HEN := hide hen
      have HRP : Hid (s.rep nd lf inn fl bk (.agg #[.bool true, .int .i64 0, .int .i64 0, .int .i64 (i : Nat), .int .i64 (nn : Nat), .int .i64 (en : Nat)])) := .inr ⟨ls, c, HR.out, HC.out, by rw [← hen, HNN.out, ← HQL.out, HQ.out]; rfl⟩
      have HRB := hide hrb
      have BWF := hide hbw
      obtain ⟨p0, p1, p2, p3, p4, p5⟩ := Six.of hbl
      have n1 : ¬ W.heap.size + 1 = B6 := by have := HB2.out; omega
      have n2 : ¬ B6 = W.heap.size + 1 := by have := HB2.out; omega
      clear hbl hup hle hra hql hrb hbw HS g8 hEall hen HBL HUP
      obtain ⟨w9, hw9⟩ : ∃ x, x = six6 wz (W.heap.size + 1) (.bool true) (.int .i64 0) (.int .i64 0) (.int .i64 (i : Nat)) (.int .i64 (nn : Nat)) (.int .i64 (en : Nat)) := ⟨_, rfl⟩
      have HW9 : Hid (w9 = ((((((wz.setCell ⟨W.heap.size + 1, 0, none⟩ (.bool true)).setCell ⟨W.heap.size + 1, 1, none⟩ (.int .i64 0)).setCell ⟨W.heap.size + 1, 2, none⟩ (.int .i64 0)).setCell ⟨W.heap.size + 1, 3, none⟩ (.int .i64 (i : Nat))).setCell ⟨W.heap.size + 1, 4, none⟩ (.int .i64 (nn : Nat))).setCell ⟨W.heap.size + 1, 5, none⟩ (.int .i64 (en : Nat)))) := hw9
      have U9 : Upd (fun b => b = W.heap.size + 1) wz w9 := by rw [hw9]; exact six_upd _ _ _ _ _ _ _ _ _ rfl
      have G9 : Hid (w9.heap[W.heap.size + 1]? = some (.cells #[.bool true, .int .i64 0, .int .i64 0, .int .i64 (i : Nat), .int .i64 (nn : Nat), .int .i64 (en : Nat)] 42 (0, 0))) := by show _ = _; rw [hw9]; exact six_block HRB.out _ _ _ _ _ _
      have B9 : Hid (Below W.heap.size W w9) := BWF.out.trans (U9.below BWF.out.size (fun k hk e => by omega))
      obtain ⟨y0, y1, y2, y3, y4, y5⟩ := Six.of HRB.out
      have F5 := fun j => frozen_of HRB.out j
      clear hw9 U9
      go_wp2_with fail
      (try simp only [Exit.inBlock, Exit.then])
      rw [← HW9.out]
      obtain ⟨q0, q1, q2, q3, q4, q5⟩ := Six.of G9.out
      exact bodyPost_ret (v := .agg #[.bool true, .int .i64 0, .int .i64 0, .int .i64 (i : Nat), .int .i64 (nn : Nat), .int .i64 (en : Nat)]) (by simp [results, Tryz.results13, go_sem, q0, q1, q2, q3, q4, q5]) rfl ⟨_, rfl, HRP.out, B9.out⟩
end Go.Proofs.YtealejbfloacpaaGreat
