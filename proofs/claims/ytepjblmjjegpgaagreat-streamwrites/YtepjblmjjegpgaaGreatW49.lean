/- StreamWrites: the walk. -/
import Derived.Test.YtepjblmjjegpgaaGreatW48
import Derived.Test.YtepjblmjjegpgaaGreatW45
import Derived.Test.YtepjblmjjegpgaaGreatW33
import Derived.Test.YtepjblmjjegpgaaGreatW41
import Derived.Test.YtepjblmjjegpgaaGreatW5
import Derived.Test.YtepjblmjjegpgaaGreatW35
import Derived.Test.YtepjblmjjegpgaaGreatW32
namespace Go.Proofs.YtepjblmjjegpgaaGreat
open Go.RowKit
set_option maxRecDepth 100000

theorem row_lt8 {w : World} {k : IntKind} {a : Option Addr} {zs : List Int} (h : Row w k a zs) {x : Addr} (hx : a = some x) (hp : 0 < zs.length) : x.block < w.heap.size := by
  obtain ⟨b, o, h1, h2, _⟩ := h.cons hp
  rw [hx] at h1
  cases h1
  exact h2
theorem esb_of {w : World} {B : Nat} {e : Ent} (ok : e.Ok w) (h : w.heap.size ≤ B) : EsB B e :=
  ⟨fun _ hx h0 => Nat.lt_of_lt_of_le (row_lt8 ok.k hx h0) h, fun _ hx h0 => Nat.lt_of_lt_of_le (row_lt8 ok.v hx h0) h⟩
/-- The invariant, whatever its numbers. -/
def WX (w W : World) (B g gr N : Nat) : Prop := ∃ s sh told M Mr, WI w W B g gr N s sh told M Mr
theorem rt_newB (w : World) (B N : Nat) (hN : 1 ≤ N ∧ N ≤ 64) (hB : B ≤ w.heap.size) : RtR (w.alloc (.cells #[.int .i64 (N : Int), .slice none 0 0, .slice none 0 0, .slice none 0 0, .bool false, .int .i64 0] 43)) B w.heap.size N ⟨[], []⟩ false 0 (.slice none 0 0) (.slice none 0 0) none 0 [] [] [] :=
  ⟨heap_alloc_new w _, World.ownsRow_nil _ _ _ _, rfl, rfl, fun i hi => absurd hi (Nat.not_lt_zero _), fun E hE => (by cases hE), World.ownsRow_nil _ _ _ _, rfl, fun e he => (by cases he), row_nil _ _ _, fun _ => ⟨rfl, rfl⟩, fun x hx => (by cases hx), Nat.zero_le _, ⟨fun q => (by cases q), fun q => (by cases q), fun p hp => (by cases hp)⟩, fun i q => (by cases q), fun p hp => (by cases hp), hB, SG.nil, hN, Nat.zero_le _⟩
theorem wx_new {w w0 w1 : World} {g N : Nat} {M : Nat → Prop} (hN : 1 ≤ N ∧ N ≤ 64) (h0 : Below w.heap.size w w0) (h : WtAt w1 w0.heap.size M g N ⟨[], []⟩ false hd8) (hb : Below w0.heap.size w0 w1) : WX w (w1.alloc (.cells #[.int .i64 (N : Int), .slice none 0 0, .slice none 0 0, .slice none 0 0, .bool false, .int .i64 0] 43)) w0.heap.size g w1.heap.size N := by
  have z0 := h0.size
  have z1 := hb.size
  have b2 : Below w1.heap.size w1 (w1.alloc (.cells #[.int .i64 (N : Int), .slice none 0 0, .slice none 0 0, .slice none 0 0, .bool false, .int .i64 0] 43)) := (Below.refl _ _).alloc (Nat.le_refl _) _
  have hr := rt_newB w1 w0.heap.size N hN z1
  refine ⟨⟨[], []⟩, false, 0, M, _, ⟨⟨?_, ⟨_, _, _, _, _, _, _, hr, fun i => Iff.rfl⟩, ?_, (h0.trans (hb.mono z0)).trans (b2.mono (by omega)), z0, by simp; omega⟩, by show 0 < N; omega, Nat.zero_le _, hN.1⟩⟩
  · have e : (fullB ⟨[], []⟩ false).drop 0 = hd8 := rfl
    rw [e]
    exact h.upd (Upd.of_below b2 Noth) (fun _ _ e => e)
  · intro i hi q
    have q1 := (h.lt i hi).2
    have q2 : i = w1.heap.size := by
      rcases q with q | q | q | ⟨p, hp, _⟩
      · exact q
      · cases q
      · cases q
      · cases hp
    omega

theorem wnext8 {w W : World} {B g gr N told : Nat} {s : St} {sh : Bool} {M Mr : Nat → Prop} (h : WI w W B g gr N s sh told M Mr) :
    Calls Tryz.prog 23 #[.pointer (some ⟨g, 0, none⟩)] W fun e W' => ∃ v M1, e = .returned v ∧ SuR W' B v ((fullB s sh).drop told) ∧ W2 w W' B g gr N s sh [] M1 s sh told Mr ∧ ∀ k, v.ownBlock = some k → k < W'.heap.size ∧ B ≤ k ∧ ¬ M1 k ∧ ¬ Mr k := by
  refine (wnext_any h.h.wt).mono ?_
  rintro e W' ⟨v, M1, rfl, h1, h2, h3, h4, h5⟩
  have V : W2 w W' B g gr N s sh [] M1 s sh told Mr := ⟨h2, h.h.rt.upd h3 (fun i q r => h.h.dj i r q) (fun i r => (h.h.wt.lt i r).1), fun i q => h.h.dj i (h4 i q), h.h.bel.trans (h3.below h.h.bel.size (fun i hi r => by have := (h.h.wt.lt i r).1; have := h.h.Bw; omega)), h.h.Bw, by have := h3.size; have := h.h.BW; omega⟩
  exact ⟨v, M1, rfl, h1, V, fun k hk => ⟨(h1.lt k hk).2, (h1.lt k hk).1, (h5 k hk).2, h.h.dj k (h5 k hk).1⟩⟩
theorem rnext8 {w W : World} {B g gr N told : Nat} {s : St} {sh : Bool} {zs : List Int} {M Mr : Nat → Prop} (h : W2 w W B g gr N s sh zs M s sh told Mr) (ht : told ≤ (fullB s sh).length) :
    Calls Tryz.prog 24 #[.pointer (some ⟨gr, 0, none⟩)] W fun e W' => ∃ a c Mr1, e = .returned (.slice a ((fullB s sh).drop told).length c) ∧ Row W' .u8 a ((fullB s sh).drop told) ∧ W2 w W' B g gr N s sh zs M s sh (fullB s sh).length Mr1 ∧ Upd Mr W W' ∧ ∀ i, Mr1 i → Mr i ∨ W.heap.size ≤ i := by
  refine (rnext_any h.rt ht).mono ?_
  rintro e W' ⟨a, n, c, rfl, hn, hr, _, _, hu⟩
  obtain ⟨Mr1, h1, h2, h3⟩ := h.doc hu
  exact ⟨a, c, Mr1, by rw [List.length_drop, hn], hr, h1, h2, h3⟩
theorem full_le {w W : World} {B g gr N told : Nat} {s : St} {sh : Bool} {M Mr : Nat → Prop} (h : WI w W B g gr N s sh told M Mr) : ((fullB s sh).drop told).length ≤ maxLen := by
  obtain ⟨_, _, _, _, _, q, _⟩ := h.h.wt
  have := q.sg.full sh
  rw [List.length_drop]
  unfold maxLen
  omega

end Go.Proofs.YtepjblmjjegpgaaGreat

namespace Go.Proofs.YtepjblmjjegpgaaGreat
open Go.RowKit
set_option maxRecDepth 100000

theorem below_dN8 (w : World) (m : Nat) : Below w.heap.size w (w.drewN m) := ⟨rfl, rfl, rfl, Nat.le_refl _, fun _ _ => rfl⟩
set_option maxRecDepth 100000 in
set_option maxHeartbeats 6400000 in
theorem swrites_good (N : Nat) (hN : 1 ≤ N ∧ N ≤ 64) (sa : Option Addr) (sb so sl sc : Nat) (L : List WOp) (w : World) (hL : L.length = sl) (hm : sl ≤ 140737488351232) (hsa : 0 < sl → sa = some ⟨sb, so, none⟩) (hO : WOps w sb so L) :
    Calls Tryz.prog 4 #[.int .i64 (N : Int), .slice sa sl sc] w fun e w' => e = .returned (.bool true) ∧ Below w.heap.size w w' := by
  have HO := hide (fun (W : World) (h : Below w.heap.size w W) => hO.below h)
  have HSA := hide hsa
  have h1 : ¬ (N : Int) < 1 := by omega
  have h2 : ¬ (N : Int) > 64 := by omega
  have h2' : ¬ 64 < (N : Int) := by omega
  have HNN := hide hN
  clear hO hsa hN
  go_enter Tryz.func4, Tryz.ntmps4
  go_wp2_with fail
  refine (slives_any _).mono ?_
  rintro e w1 ⟨rfl, t1⟩
  have T1 := hide t1
  have HNW := hide (wnew_good N w1 HNN.out)
  clear t1
  go_wp2_with fail
  refine HNW.out.mono ?_
  rintro e w2 ⟨g, M, rfl, hw, hb⟩
  have X0 := hide (wx_new HNN.out T1.out hw hb)
  clear hw hb HNW
  go_upto_block 0 with fail
  obtain ⟨w3, hw3⟩ : ∃ W, W = w2.alloc (.cells #[.int .i64 (N : Int), .slice none 0 0, .slice none 0 0, .slice none 0 0, .bool false, .int .i64 0] 43) := ⟨_, rfl⟩
  rw [← hw3] at X0 ⊢
  clear hw3
  generalize w2.heap.size = gr at *
  obtain ⟨B, hB⟩ : ∃ B, B = w1.heap.size := ⟨_, rfl⟩
  rw [← hB] at X0
  clear hB
  go_wp2_with fail
  go_loopw [9] (fun q wr => ∃ i : Nat, i ≤ sl ∧ q = .int .i64 (i : Int) ∧ Hid (WX w wr B g gr N)) (fun q _ => sl - (intOf q).toNat)
  case atStart => exact ⟨0, Nat.zero_le _, rfl, X0⟩
  case round =>
    clear X0
    obtain ⟨i, hi, rfl, HV⟩ := hrel
    rename World => wr
    by_cases hlt : i < sl
    · have i1 : (i : Int) < (sl : Int) := by omega
      have i2 : (0 : Int) ≤ (i : Int) := by omega
      obtain rfl := HSA.out (by omega)
      have hiL : i < L.length := by omega
      have HBEL : Hid (Below w.heap.size w wr) := by obtain ⟨_, _, _, _, _, h⟩ := HV.out; exact h.h.bel
      have o0 := (HO.out wr HBEL.out).at0 i hiL
      have o1 := (HO.out wr HBEL.out).at1 i hiL
      have o2 := (HO.out wr HBEL.out).at2 i hiL
      have HOK := hide (fun (W : World) (h : Below w.heap.size w W) => (HO.out W h).ok i hiL)
      generalize L[i] = op at *
      obtain ⟨kind, en⟩ := op
      simp only at o0 o1 o2 HOK
      unfold Ent.kv at o1
      unfold Ent.vv at o2
      obtain ⟨nk, hnk⟩ : ∃ nk, en.ks.length = nk := ⟨_, rfl⟩
      obtain ⟨nv, hnv⟩ : ∃ nv, en.vs.length = nv := ⟨_, rfl⟩
      rw [hnk] at o1
      rw [hnv] at o2
      replace hnk := hide hnk
      replace hnv := hide hnv
      go_upto_region 12 with fail
      obtain ⟨wA, hwA⟩ : ∃ wA, wA = wr.alloc (.cells #[.int .i64 kind, .slice en.ka nk en.kc, .slice en.va nv en.vc] 45) := ⟨_, rfl⟩
      rw [← hwA]
      obtain ⟨gt, hgt⟩ : ∃ gt, gt = wr.heap.size := ⟨_, rfl⟩
      rw [← hgt]
      have bA : Below wr.heap.size wr wA := by rw [hwA]; exact (Below.refl _ _).alloc (Nat.le_refl _) _
      have hT : wA.heap[gt]? = some (.cells #[.int .i64 kind, .slice en.ka nk en.kc, .slice en.va nv en.vc] 45 (0, 0)) := by rw [hwA, hgt]; exact heap_alloc_new wr _
      have HT := hide hT
      have hgt' : gt < wA.heap.size := lt_of_block hT
      have HVA : Hid (∃ s sh told M Mr, WI w wA B g gr N s sh told M Mr ∧ ¬ M gt ∧ ¬ Mr gt) := by
        obtain ⟨s, sh, told, M, Mr, h⟩ := HV.out
        have y := h.h.young gt (by omega)
        exact ⟨s, sh, told, M, Mr, ⟨h.h.below bA, h.lt, h.tl, h.n1⟩, y.2.1, y.2.2⟩
      have t0 : wA.cell? ⟨gt, 0, none⟩ = some (.int .i64 kind) := by rw [cell_of_row _ _ _ _ _ _ hT]; rfl
      clear hT hwA hgt bA HV HBEL o0 o1 o2
      go_upto_block 2 with fail
      go_cut [11] (fun s11 wx => s11 = .bool true ∧ Hid (WX w wx B g gr N))
      case first =>
        obtain ⟨s, sh, told, M, Mr, hV, hMg, hRg⟩ := HVA.out
        have I := hide hV
        have HMg := hide hMg
        have HRg := hide hRg
        clear hV hMg hRg HVA
        by_cases hk0 : kind = 0
        · subst hk0
          have t1 : wA.cell? ⟨gt, 1, none⟩ = some (.slice en.ka nk en.kc) := by rw [cell_of_row _ _ _ _ _ _ HT.out]; rfl
          have t2 : wA.cell? ⟨gt, 2, none⟩ = some (.slice en.va nv en.vc) := by rw [cell_of_row _ _ _ _ _ _ HT.out]; rfl
          obtain ⟨w1', hw1⟩ : ∃ w1', w1' = wA.alloc (.cells #[.slice en.ka nk en.kc, .slice en.va nv en.vc] 38) := ⟨_, rfl⟩
          have b1 : Below wA.heap.size wA w1' := by rw [hw1]; exact (Below.refl _ _).alloc (Nat.le_refl _) _
          have hB1 : w1'.heap[wA.heap.size]? = some (.cells #[.slice en.ka nk en.kc, .slice en.va nv en.vc] 38 (0, 0)) := by rw [hw1]; exact heap_alloc_new wA _
          have hz1 : w1'.heap.size = wA.heap.size + 1 := by rw [hw1]; simp
          have V1 := hide (I.out.h.below b1)
          have HT1 := hide ((b1.block gt hgt').trans HT.out)
          have OK1 := hide (HOK.out w1' V1.out.bel)
          have HC := hide (copy1_any wA.heap.size 0 1 en w1' (by rw [cell_of_row _ _ _ _ _ _ hB1]; unfold Ent.kv; rw [hnk.out]; rfl) (by rw [cell_of_row _ _ _ _ _ _ hB1]; unfold Ent.vv; rw [hnv.out]; rfl) OK1.out)
          clear b1 hB1
          go_wp2_with fail
          rw [← hw1]
          clear hw1
          refine HC.out.mono ?_
          rintro e w2' ⟨gk, gv, gm, rfl, hel, mk, mv, b2⟩
          have EL := hide hel
          have MK := hide mk
          have MV := hide mv
          have HT2 := hide ((b2.block gt (by omega)).trans HT1.out)
          have HSP2 := hide (hel.spi (Below.refl _ _))
          have hga : w1'.heap.size < w2'.heap.size := by obtain ⟨cur, h1, _⟩ := hel.eb; exact lt_of_block h1
          obtain ⟨e0, e1⟩ := cp1_cells hel hnk.out hnv.out
          have HADD := hide (wadd8 (V1.out.below b2) I.out.lt V1.out hel OK1.out hnk.out hnv.out)
          have HZ1 := hide hz1
          clear hel mk mv b2 HC t1 t2 hz1
          obtain ⟨ga, hgae⟩ : ∃ ga, ga = w1'.heap.size := ⟨_, rfl⟩
          rw [← hgae] at e0 e1 hga ⊢
          replace hgae := hide hgae
          have HIA := hide (fun (W' : World) (M1 Mr1 : Nat → Prop) => I.out.add (k := en.ks) (v := en.vs) (W' := W') (M1 := M1) (Mr1 := Mr1))
          have HLT := hide I.out.lt
          obtain ⟨ad, had⟩ : ∃ ad, ad = aE sh s en.ks en.vs := ⟨_, rfl⟩
          rw [← had] at HADD
          have HAD := hide had
          clear had
          go_wp2_with fail
          refine HADD.out.mono ?_
          rintro e w3' ⟨rfl, M1, hv3, hu3, hm3⟩
          have V3 := hide hv3
          have U3 := hide hu3
          have HM1 := hide hm3
          clear hv3 hu3 hm3 HADD
          have ut : Hid (w3'.heap[gt]? = some (.cells #[.int .i64 0, .slice en.ka nk en.kc, .slice en.va nv en.vc] 45 (0, 0))) := U3.out.heap HT2.out HMg.out
          have t1 : w3'.cell? ⟨gt, 1, none⟩ = some (.slice en.ka nk en.kc) := by rw [cell_of_row _ _ _ _ _ _ ut.out]; rfl
          have t2 : w3'.cell? ⟨gt, 2, none⟩ = some (.slice en.va nv en.vc) := by rw [cell_of_row _ _ _ _ _ _ ut.out]; rfl
          have HYG : Hid (∀ i, w1'.heap.size ≤ i → B ≤ i ∧ ¬ M i ∧ ¬ Mr i) := V1.out.young
          have EL3 := hide (EL.out.upd U3.out (fun i h _ => (HYG.out i h).2.1))
          have MK3 : Hid (Mkd w3' gk en.ks) := fun i hi => U3.out.cell (MK.out i hi) (HYG.out gk (cp1_young EL.out).1).2.1
          have MV3 : Hid (Mkd w3' gv en.vs) := fun i hi => U3.out.cell (MV.out i hi) (HYG.out gv (cp1_young EL.out).2).2.1
          have SP3 := hide (HSP2.out.move U3.out (fun i h _ => (HYG.out i h).2.1) ⟨Nat.le_refl _, hgae.out ▸ hga⟩)
          have z3 := U3.out.size
          obtain ⟨w4', hw4⟩ : ∃ w4', w4' = w3'.alloc (.cells #[.slice en.ka nk en.kc, .slice en.va nv en.vc] 38) := ⟨_, rfl⟩
          have b4 : Below w3'.heap.size w3' w4' := by rw [hw4]; exact (Below.refl _ _).alloc (Nat.le_refl _) _
          have hB4 : w4'.heap[w3'.heap.size]? = some (.cells #[.slice en.ka nk en.kc, .slice en.va nv en.vc] 38 (0, 0)) := by rw [hw4]; exact heap_alloc_new w3' _
          have V4 := hide (V3.out.below b4)
          have HK := hide (rkept_yes (some ⟨w3'.heap.size, 0, none⟩) w1'.heap.size w1'.heap.size 2 w3'.heap.size 0 1 1 [cpE en gk gv] [en] w4' rfl (by omega) (by omega) ((cpd1 EL3.out MK3.out MV3.out).below b4) (fun _ => rfl) (one_ens hB4 hnk.out hnv.out (HOK.out w4' V4.out.bel)) (fun _ => lt_of_block hB4))
          rw [← hgae.out] at HK
          have B4 := hide b4
          clear b4 hB4 e0 e1
          go_wp2_with fail
          rw [← hw4]
          clear hw4
          refine HK.out.mono ?_
          rintro e w5' ⟨rfl, b5⟩
          have B45 := hide (B4.out.trans (b5.mono B4.out.size))
          have V5 := hide (V4.out.below b5)
          have SP5 := hide (SP3.out.move (Upd.of_below B45.out Noth) (fun _ _ _ e => e) ⟨Nat.le_refl _, hgae.out ▸ hga⟩)
          have ut5 := hide ((B45.out.block gt (lt_of_block ut.out)).trans ut.out)
          have z5 := B45.out.size
          have HRA := hide (radd8 V5.out HLT.out (HOK.out w5' V5.out.bel) (esb_of (HOK.out w (Below.refl _ _)) V5.out.Bw) hnk.out hnv.out)
          rw [← HAD.out] at HRA
          clear b5 HK t1 t2
          have t1 : w5'.cell? ⟨gt, 1, none⟩ = some (.slice en.ka nk en.kc) := by rw [cell_of_row _ _ _ _ _ _ ut5.out]; rfl
          have t2 : w5'.cell? ⟨gt, 2, none⟩ = some (.slice en.va nv en.vc) := by rw [cell_of_row _ _ _ _ _ _ ut5.out]; rfl
          go_wp2_with fail
          refine HRA.out.mono ?_
          rintro e w6' ⟨rfl, Mr1, hv6, hu6, hm6⟩
          have SP6 := hide (SP5.out.move hu6 (fun i h _ => (HYG.out i h).2.2) ⟨Nat.le_refl _, hgae.out ▸ hga⟩)
          have HS := hide (rspoil_spi (n := 2) SP6 ⟨Nat.le_refl _, hgae.out ▸ hga⟩ rfl (by decide) 1)
          rw [← hgae.out] at HS
          have V6 := hide hv6
          have HM6 := hide hm6
          clear hv6 hu6 hm6 HRA t1 t2
          go_wp2_with fail
          refine HS.out.mono ?_
          rintro e w7' ⟨rfl, u7⟩
          have F : Hid (WX w w7' B g gr N) := ⟨_, _, _, _, _, HIA.out w7' M1 Mr1 (V6.out.upd u7 (fun i hi => by
            rw [hgae.out] at hi
            have q := HYG.out i hi.1
            exact ⟨q.1, fun h => (HM1.out i h).elim q.2.1 (fun h => by omega), fun h => (HM6.out i h).elim q.2.2 (fun h => by omega)⟩))⟩
          clear u7 HS
          go_wp2_with fail
          go_meet
          exact ⟨rfl, F⟩
        · by_cases hk1 : kind = 1
          · subst hk1
            have HW := hide (wcut8 I.out.h)
            go_wp2_with fail
            refine HW.out.mono ?_
            rintro e wd ⟨rfl, M1, hv1, hu1, hm1⟩
            have HR := hide (rcut8 hv1)
            clear hv1 hu1 hm1 HW
            go_wp2_with fail
            refine HR.out.mono ?_
            rintro e we ⟨rfl, Mr1, hv2, hu2, hm2⟩
            have F : Hid (WX w we B g gr N) := ⟨_, _, _, _, _, I.out.cut hv2⟩
            clear hv2 hu2 hm2 HR
            go_wp2_with fail
            go_meet
            exact ⟨rfl, F⟩
          · by_cases hk2 : kind = 2
            · subst hk2
              have HW := hide (wclose8 I.out.h)
              go_wp2_with fail
              refine HW.out.mono ?_
              rintro e wd ⟨rfl, M1, hv1, hu1, hm1⟩
              have HR := hide (rclose8 hv1)
              clear hv1 hu1 hm1 HW
              go_wp2_with fail
              refine HR.out.mono ?_
              rintro e we ⟨rfl, Mr1, hv2, hu2, hm2⟩
              have F : Hid (WX w we B g gr N) := ⟨_, _, _, _, _, I.out.shut hv2⟩
              clear hv2 hu2 hm2 HR
              go_wp2_with fail
              go_meet
              exact ⟨rfl, F⟩
            · by_cases hk3 : kind = 3
              · subst hk3
                have HW := hide (wnext8 I.out)
                have HFL := hide (full_le I.out)
                go_wp2_with fail
                refine HW.out.mono ?_
                rintro e wd ⟨v, M1, rfl, hs1, hv1, hy1⟩
                have HR := hide (rnext8 hv1 I.out.tl)
                have IT := hide (fun (W' : World) (Mx : Nat → Prop) => I.out.told (W' := W') (M1 := M1) (Mr1 := Mx))
                clear hv1 HW
                generalize (fullB s sh).drop told = zs at *
                obtain ⟨nz, hnz⟩ : ∃ n, zs.length = n := ⟨_, rfl⟩
                rw [hnz] at HR HFL
                have HNZ := hide hnz
                obtain ⟨av, cv, hvv, _⟩ := hs1.sliceN hnz
                subst hvv
                have S1 := hide hs1
                have Y1 := hide hy1
                clear hs1 hy1 hnz
                go_wp2_with fail
                refine HR.out.mono ?_
                rintro e we ⟨ar, cr, Mr1, rfl, hr2, hv2, hu2, hm2⟩
                have S2 := hide (S1.out.upd hu2 (fun k hk => (Y1.out k hk).2.2.2))
                have zz := hu2.size
                obtain ⟨_, _, q1, _, _, q4⟩ := S2.out.sliceN HNZ.out
                have HQ := hide (sameq av ar nz cv cr zs we HFL.out HNZ.out (by cases q1; exact q4) hr2)
                have HSP := hide (fun m => spoil_su (S2.out.below (below_dN8 we m)))
                have HFX : Hid (∀ m W', (we.drewN m).grownBy W' (Value.slice av nz cv).ownBlock → WX w W' B g gr N) := fun m W' hg => ⟨_, _, _, _, _, IT.out W' Mr1 ((hv2.below (below_dN8 we m)).upd (Upd.of_grown (S := fun i => (Value.slice av nz cv).ownBlock = some i) hg (fun k hk _ => hk)) (fun k hk => ⟨(Y1.out k hk).2.1, (Y1.out k hk).2.2.1, fun r => (hm2 k r).elim (Y1.out k hk).2.2.2 (fun q => by have := (Y1.out k hk).1; omega)⟩))⟩
                clear hr2 hv2 hu2 hm2 q1 q4 HR
                go_wp2_with fail
                refine HQ.out.mono ?_
                rintro e wf ⟨rfl, nq, rfl⟩
                have HSP1 := hide (HSP.out nq)
                have HFX1 := hide (HFX.out nq)
                clear HSP HFX
                generalize we.drewN nq = wf at *
                go_wp2_with fail
                refine HSP1.out.mono ?_
                rintro e wh ⟨rfl, hg⟩
                have F := hide (HFX1.out wh hg)
                clear hg HSP1 HFX1 HQ
                go_wp2_with fail
                go_meet
                exact ⟨rfl, F⟩
              · have F : Hid (WX w wA B g gr N) := ⟨_, _, _, _, _, I.out⟩
                go_wp2_with fail
                go_meet
                exact ⟨rfl, F⟩
      case rest =>
      obtain ⟨rfl, hcx⟩ := hcut
      rename World => wx
      obtain ⟨s, sh, told, M, Mr, hI⟩ := hcx.out
      have HV := hide hI.h
      have HLT := hide hI
      have HSN := hide (wspans_any hI.h.wt)
      have hmany : s.L.length ≤ 8388608 := by obtain ⟨_, _, _, _, _, q, _⟩ := hI.h.wt; exact q.sg.many
      clear hI hcx HVA t0 hgt' HT
      go_wp2_with fail
      refine HSN.out.mono ?_
      rintro e wy ⟨v, D, rfl, hrd, heD, hby⟩
      have VY := hide (HV.out.below hby)
      have HRS := hide (rspans_any VY.out.rt)
      obtain ⟨av, bv, cv, hvv, hav, hsv⟩ := hrd.sps
      have hDl : D.length = s.L.length := by have := congrArg List.length heD; rwa [rws_len, rowsOf_len] at this
      subst hvv
      rw [hDl] at hav hrd
      have RD := hide hrd
      have HSV := hide hsv
      have HED := hide heD
      have HAV := hide hav
      clear hrd hsv heD hby hav HSN
      rw [hDl]
      go_wp2_with fail
      refine HRS.out.mono ?_
      rintro e wz ⟨v2, C2, rfl, ho2, hbz⟩
      obtain ⟨a2, b2, c2, hv2, ha2, hs2⟩ := ho2.sps
      have hCl := ho2.len
      subst hv2
      have VZ := hide (VY.out.below hbz)
      have HFS := hide (fsame_any av a2 bv 0 b2 0 s.L.length cv c2 D C2 wz hDl hCl (by omega) HAV.out (by rw [hCl] at ha2; exact ha2) (HSV.out.below hbz) hs2 (HED.out.trans ho2.e.symm))
      have BZ := hide hbz
      clear ho2 hbz ha2 hs2 HRS
      rw [hCl]
      go_wp2_with fail
      refine HFS.out.mono ?_
      rintro e wa ⟨rfl, hba⟩
      have VA := hide (VZ.out.below hba)
      have HSQ := hide (rfspoil_any RD.out (BZ.out.trans (hba.mono BZ.out.size)))
      clear hba HFS
      go_wp2_with fail
      refine HSQ.out.mono ?_
      rintro e wb ⟨rfl, hub⟩
      have F : Hid (WX w wb B g gr N) := ⟨s, sh, told, M, Mr, ⟨VA.out.upd hub (fun i hi => HV.out.young i hi.1), HLT.out.lt, HLT.out.tl, HLT.out.n1⟩⟩
      clear hub HSQ
      go_wp2_with fail
      go_roundw
      case rel => exact ⟨i + 1, by omega, by go_num, F⟩
      case measure => simp [intOf]; omega
    · have i1 : ¬ (i : Int) < (sl : Int) := by omega
      obtain ⟨s, sh, told, M, Mr, hI⟩ := HV.out
      have I := hide hI
      have HW := hide (wnext8 hI)
      have HFL := hide (full_le hI)
      clear hI HV
      go_wp2_with fail
      refine HW.out.mono ?_
      rintro e wd ⟨v, M1, rfl, hs1, hv1, hy1⟩
      have HR := hide (rnext8 hv1 I.out.tl)
      clear hv1 HW
      generalize (fullB s sh).drop told = zs at *
      obtain ⟨nz, hnz⟩ : ∃ n, zs.length = n := ⟨_, rfl⟩
      rw [hnz] at HR HFL
      have HNZ := hide hnz
      obtain ⟨av, cv, hvv, _⟩ := hs1.sliceN hnz
      subst hvv
      have S1 := hide hs1
      have Y1 := hide hy1
      clear hs1 hy1 hnz
      go_wp2_with fail
      refine HR.out.mono ?_
      rintro e we ⟨ar, cr, Mr1, rfl, hr2, hv2, hu2, hm2⟩
      have S2 := hide (S1.out.upd hu2 (fun k hk => (Y1.out k hk).2.2.2))
      obtain ⟨_, _, q1, _, _, q4⟩ := S2.out.sliceN HNZ.out
      have HQ := hide (sameq av ar nz cv cr zs we HFL.out HNZ.out (by cases q1; exact q4) hr2)
      have BE := hide hv2.bel
      clear hr2 hv2 hu2 hm2 q1 q4 HR
      go_wp2_with fail
      refine HQ.out.mono ?_
      rintro e wf ⟨rfl, nq, rfl⟩
      have BF := hide (BE.out.trans ((below_dN8 we nq).mono BE.out.size))
      clear BE
      generalize we.drewN nq = wf at *
      go_wp2_with fail
      go_ret
      exact ⟨rfl, BF.out⟩

end Go.Proofs.YtepjblmjjegpgaaGreat

namespace Go.Proofs.YtepjblmjjegpgaaGreat
open Go.RowKit
set_option maxRecDepth 100000

set_option maxRecDepth 100000 in
set_option maxHeartbeats 1600000 in
theorem swrites_bad (n : Int) (sa : Option Addr) (sl sc : Nat) (w : World) (hn : n < 1 ∨ 64 < n) :
    Calls Tryz.prog 4 #[.int .i64 n, .slice sa sl sc] w fun e w' => e = .returned (.bool true) ∧ Below w.heap.size w w' := by
  by_cases h1 : n < 1
  · go_enter Tryz.func4, Tryz.ntmps4
    go_wp2_with fail
    refine (slives_any _).mono ?_
    rintro e w1 ⟨rfl, t1⟩
    have T1 := hide t1
    clear t1
    go_wp2_with fail
    refine (wnew_bad n w1 hn).mono ?_
    rintro e w2 ⟨rfl, rfl⟩
    go_wp2_with fail
    go_ret
    exact ⟨rfl, T1.out⟩
  · have h2 : 64 < n := by omega
    go_enter Tryz.func4, Tryz.ntmps4
    go_wp2_with fail
    refine (slives_any _).mono ?_
    rintro e w1 ⟨rfl, t1⟩
    have T1 := hide t1
    clear t1
    go_wp2_with fail
    refine (wnew_bad n w1 hn).mono ?_
    rintro e w2 ⟨rfl, rfl⟩
    go_wp2_with fail
    go_ret
    exact ⟨rfl, T1.out⟩
theorem streamWrites_any (n : Int) (sa : Option Addr) (sb so sl sc : Nat) (L : List WOp) (w : World) (hL : L.length = sl) (hm : sl ≤ 140737488351232) (hsa : 0 < sl → sa = some ⟨sb, so, none⟩) (hO : WOps w sb so L) :
    Calls Tryz.prog 4 #[.int .i64 n, .slice sa sl sc] w fun e w' => e = .returned (.bool true) ∧ Below w.heap.size w w' := by
  by_cases h : n < 1 ∨ 64 < n
  · exact swrites_bad n sa sl sc w h
  · obtain ⟨N, rfl⟩ : ∃ N : Nat, n = (N : Int) := ⟨n.toNat, by omega⟩
    exact swrites_good N (by omega) sa sb so sl sc L w hL hm hsa hO

end Go.Proofs.YtepjblmjjegpgaaGreat
