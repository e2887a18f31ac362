/- CursorTight: the walk. -/
import Derived.Test.YtkginmhfpegkiaaQTightP
import Derived.Test.YtkginmhfpegkiaaQIns
namespace Go.Proofs.Ytkginmhfpegkiaa
open Go.RowKit

structure TI4 (zs gs : List Int) (fail : Int) (eager : Bool) (g B gc mo : Nat) (M : Nat → Prop) (w3 : World) (i hl : Nat) (wr : World) (x : InS (Nat × Nat)) (F : Nat → Prop) : Prop where
  isin : IsIn (SrcRd zs gs fail eager g B M) B gc (.iface 29 (.pointer (some ⟨g, 0, none⟩))) wr x F
  sub : ∀ j, F j → (M j ∨ j = gc) ∨ w3.heap.size ≤ j
  up : Upd (fun j => M j ∨ j = gc) w3 wr
  ok : InOk Prod.fst (fun s : Nat × Nat => zs.length - s.2) (fun s : Nat × Nat => zs.length - s.2) (17 * zs.length + 16 + 200 * i) mo x
  pos : Pos zs x
  held : x.err = 0 → hl = x.held.length
theorem TI4.next {zs gs : List Int} {fail : Int} {eager : Bool} {g B gc mo : Nat} {M : Nat → Prop} {w3 wr w6 : World} {i hl hl' : Nat} {x y : InS (Nat × Nat)} {F F' : Nat → Prop} (h : TI4 zs gs fail eager g B gc mo M w3 i hl wr x F) (h1 : IsIn (SrcRd zs gs fail eager g B M) B gc (.iface 29 (.pointer (some ⟨g, 0, none⟩))) w6 y F') (hu : Upd F wr w6) (hs : ∀ j, F' j → F j ∨ wr.heap.size ≤ j)
    (hok : InOk Prod.fst (fun s : Nat × Nat => zs.length - s.2) (fun s : Nat × Nat => zs.length - s.2) (17 * zs.length + 16 + 200 * i + 200) mo y) (hp : Pos zs y) (hh : y.err = 0 → hl' = y.held.length) : TI4 zs gs fail eager g B gc mo M w3 (i + 1) hl' w6 y F' := by
  have hz := h.up.size
  exact ⟨h1, fun j hj => (hs j hj).elim (fun e => h.sub j e) (fun e => .inr (by omega)), h.up.then hu (fun j hj e => (h.sub j e).elim id (fun e => by omega)), by rw [Nat.mul_add, ← Nat.add_assoc]; exact hok, hp, hh⟩

/-- Behind what was asked. -/
structure TM (zs gs : List Int) (fail : Int) (eager : Bool) (g B gc mo : Nat) (M : Nat → Prop) (i : Nat) (wr : World) (x : InS (Nat × Nat)) (F : Nat → Prop) (kk : Int) (wx : World) (y : InS (Nat × Nat)) (F' : Nat → Prop) (hl' : Nat) (e : Int) (over : Bool) : Prop where
  isin : IsIn (SrcRd zs gs fail eager g B M) B gc (.iface 29 (.pointer (some ⟨g, 0, none⟩))) wx y F'
  up : Upd F wr wx
  sub : ∀ j, F' j → F j ∨ wr.heap.size ≤ j
  ok : InOk Prod.fst (fun s : Nat × Nat => zs.length - s.2) (fun s : Nat × Nat => zs.length - s.2) (17 * zs.length + 16 + 200 * i + 200) mo y
  pos : Pos zs y
  held : y.err = 0 → hl' = y.held.length
  ended : x.err ≠ 0 → y = x ∧ (0 ≤ kk → kk ≤ 3 → e = x.err)
  at1 : x.at' ≤ y.at'
  ov : over = true → y.s.2 = zs.length
section
variable {zs gs : List Int} {fail : Int} {eager : Bool} {g B gc mo : Nat} {M : Nat → Prop} {w3 wr wx : World} {i hl : Nat} {x : InS (Nat × Nat)} {F F' : Nat → Prop}
theorem tm_byte (h8 : B8 zs) (h : TI4 zs gs fail eager g B gc mo M w3 i hl wr x F) (h1 : IsIn (SrcRd zs gs fail eager g B M) B gc (.iface 29 (.pointer (some ⟨g, 0, none⟩))) wx (byteP (SR zs gs fail eager) x).2.2 F') (hu : Upd F wr wx) (hs : ∀ j, F' j → F j ∨ wr.heap.size ≤ j) : TM zs gs fail eager g B gc mo M i wr x F 0 wx (byteP (SR zs gs fail eager) x).2.2 F' 0 (byteP (SR zs gs fail eager) x).2.1 false := by
  have hok := byte_ok (src_fam zs gs fail eager g B M h8) x _ mo h.ok
  by_cases he : x.err = 0
  · have hT := byte_tight (gs := gs) (fail := fail) (eager := eager) h8 x _ mo h.ok he h.pos
    exact ⟨h1, hu, hs, hok, hT.1.pos, fun hy => by rw [hT.2 hy]; rfl, fun h => absurd he h, hT.1.at1, fun h => by cases h⟩
  · have hq : byteP (SR zs gs fail eager) x = (0, x.err, x) := by unfold byteP; rw [if_pos he]
    have hq' : byteP (fun k => srcRd zs gs fail eager k) x = (0, x.err, x) := hq
    rw [hq'] at hok
    rw [hq] at h1 ⊢
    exact ⟨h1, hu, hs, hok, h.pos, fun hy => absurd hy he, fun _ => ⟨rfl, fun _ _ => rfl⟩, Nat.le_refl _, fun h => by cases h⟩
theorem tm_num (h8 : B8 zs) (h : TI4 zs gs fail eager g B gc mo M w3 i hl wr x F) (h1 : IsIn (SrcRd zs gs fail eager g B M) B gc (.iface 29 (.pointer (some ⟨g, 0, none⟩))) wx (numP (SR zs gs fail eager) x).2.2 F') (hu : Upd F wr wx) (hs : ∀ j, F' j → F j ∨ wr.heap.size ≤ j) : TM zs gs fail eager g B gc mo M i wr x F 2 wx (numP (SR zs gs fail eager) x).2.2 F' 0 (numP (SR zs gs fail eager) x).2.1 false := by
  have hok := num_ok (src_fam zs gs fail eager g B M h8) x _ mo h.ok
  by_cases he : x.err = 0
  · have hT := num_tight (gs := gs) (fail := fail) (eager := eager) h8 x _ mo h.ok he h.pos
    exact ⟨h1, hu, hs, hok, hT.1.pos, fun hy => by rw [hT.2 hy]; rfl, fun h => absurd he h, hT.1.at1, fun h => by cases h⟩
  · have hq : numP (SR zs gs fail eager) x = (0, x.err, x) := by unfold numP; rw [if_pos he]
    have hq' : numP (fun k => srcRd zs gs fail eager k) x = (0, x.err, x) := hq
    rw [hq'] at hok
    rw [hq] at h1 ⊢
    exact ⟨h1, hu, hs, hok, h.pos, fun hy => absurd hy he, fun _ => ⟨rfl, fun _ _ => rfl⟩, Nat.le_refl _, fun h => by cases h⟩
theorem tm_bytes (h8 : B8 zs) (n : Int) (h : TI4 zs gs fail eager g B gc mo M w3 i hl wr x F) (h1 : IsIn (SrcRd zs gs fail eager g B M) B gc (.iface 29 (.pointer (some ⟨g, 0, none⟩))) wx (bytesP (SR zs gs fail eager) n x).2.2 F') (hu : Upd F wr wx) (hs : ∀ j, F' j → F j ∨ wr.heap.size ≤ j) : TM zs gs fail eager g B gc mo M i wr x F 1 wx (bytesP (SR zs gs fail eager) n x).2.2 F' (if 0 < n then 0 else hl) (bytesP (SR zs gs fail eager) n x).2.1 false := by
  have hok := bytes_ok (src_fam zs gs fail eager g B M h8) n x _ mo h.ok
  by_cases he : x.err = 0
  · have hT := bytes_tight (gs := gs) (fail := fail) (eager := eager) h8 n x _ mo h.ok he h.pos
    refine ⟨h1, hu, hs, hok, hT.1.pos, fun hy => ?_, fun h => absurd he h, hT.1.at1, fun h => by cases h⟩
    rw [hT.2 hy]
    split
    · rfl
    · exact h.held he
  · have hq : bytesP (SR zs gs fail eager) n x = ([], x.err, x) := by unfold bytesP; rw [if_pos he]
    have hq' : bytesP (fun k => srcRd zs gs fail eager k) n x = ([], x.err, x) := hq
    rw [hq'] at hok
    rw [hq] at h1 ⊢
    exact ⟨h1, hu, hs, hok, h.pos, fun hy => absurd hy he, fun _ => ⟨rfl, fun _ _ => rfl⟩, Nat.le_refl _, fun h => by cases h⟩
theorem tm_end (h8 : B8 zs) (h : TI4 zs gs fail eager g B gc mo M w3 i hl wr x F) (h1 : IsIn (SrcRd zs gs fail eager g B M) B gc (.iface 29 (.pointer (some ⟨g, 0, none⟩))) wx (endP (SR zs gs fail eager) x).2.2 F') (hu : Upd F wr wx) (hs : ∀ j, F' j → F j ∨ wr.heap.size ≤ j) : TM zs gs fail eager g B gc mo M i wr x F 3 wx (endP (SR zs gs fail eager) x).2.2 F' (if (endP (SR zs gs fail eager) x).1 = false ∧ (endP (SR zs gs fail eager) x).2.1 = 0 then 1 else hl) (endP (SR zs gs fail eager) x).2.1 (endP (SR zs gs fail eager) x).1 := by
  have hok := end_ok (src_fam zs gs fail eager g B M h8) x _ mo h.ok
  by_cases he : x.err = 0
  · have hT := end_tight (gs := gs) (fail := fail) (eager := eager) h8 x _ mo h.ok he h.pos
    refine ⟨h1, hu, hs, hok, hT.1.pos, fun hy => ?_, fun h => absurd he h, hT.1.at1, fun h => (hT.2.1 h).1⟩
    split
    · rename_i hc; exact (hT.2.2.1 hc.1 hc.2).symm
    · rename_i hc
      cases hb : (endP (SR zs gs fail eager) x).1 with
      | true => rw [(hT.2.1 hb).2.2]; exact h.held he
      | false => exact absurd hy (hT.2.2.2 (fun e => hc ⟨hb, e⟩))
  · have hq : endP (SR zs gs fail eager) x = (false, x.err, x) := by unfold endP; rw [if_pos he]
    have hq' : endP (fun k => srcRd zs gs fail eager k) x = (false, x.err, x) := hq
    rw [hq'] at hok
    rw [hq] at h1 ⊢
    exact ⟨h1, hu, hs, hok, h.pos, fun hy => absurd hy he, fun _ => ⟨rfl, fun _ _ => rfl⟩, Nat.le_refl _, fun h => by cases h⟩
end

set_option maxRecDepth 100000 in
set_option maxHeartbeats 6400000 in
theorem cursorTight_any (ab ag as' : Option Addr) (lb cb lg cg ls cs : Nat) (zs gs : List Int) (fail : Int) (eager : Bool) (most : Int) (Kf Nf : Nat → Int) (w : World)
    (hlb : zs.length = lb) (hlg : gs.length = lg) (hm : lb ≤ 140737488351232) (hmg : lg * 8 ≤ 140737488351232) (hms : ls * 16 ≤ 140737488351232) (hmost : most ≤ 9223372036854775807)
    (nb : ab = none → lb = 0 ∧ cb = 0) (ng : ag = none → lg = 0 ∧ cg = 0) (rb : Row w .u8 ab zs) (rg : Row w .i64 ag gs) (b8 : B8 zs) (hA : IsAsks w as' ls Kf Nf) :
    Calls Try.prog 8 #[.agg #[.slice ab lb cb, .slice ag lg cg, .int .i64 fail, .bool eager], .int .i64 most, .slice as' ls cs] w fun e w' => e = .returned (.bool true) ∧ Below w.heap.size w w' := by
  have HRB := hide rb
  have HRG := hide rg
  have HA := hide hA
  have HNB := hide nb
  have HNG := hide ng
  have HB8 := hide b8
  have hf1 := heap_alloc_new w (.cells #[.slice ab lb cb, .slice ag lg cg, .int .i64 fail, .bool eager] 26)
  have hbA : Below w.heap.size w (w.alloc (.cells #[.slice ab lb cb, .slice ag lg cg, .int .i64 fail, .bool eager] 26)) := (Below.refl _ _).alloc (Nat.le_refl _) _
  have hzA : (w.alloc (.cells #[.slice ab lb cb, .slice ag lg cg, .int .i64 fail, .bool eager] 26)).heap.size = w.heap.size + 1 := by simp
  obtain ⟨mo, hmo⟩ : ∃ mo : Nat, (mo : Int) = max 0 most := ⟨(max 0 most).toNat, by omega⟩
  have hmo2 : mo ≤ 9223372036854775807 := by omega
  have HMO : Hid ((if (0 : Int) < most then most else 0) = (mo : Int)) := hide (by split <;> omega)
  replace hmo := hide hmo
  clear rb rg nb ng b8 hA
  go_enter Try.func8, Try.ntmps8
  go_wp2_with fail
  generalize w.alloc (.cells #[.slice ab lb cb, .slice ag lg cg, .int .i64 fail, .bool eager] 26) = wA at *
  obtain ⟨gA, hgA⟩ : ∃ gA, gA = w.heap.size := ⟨_, rfl⟩
  rw [← hgA] at hf1 hbA hzA ⊢
  replace hgA := hide hgA
  refine (lives_any wA).mono ?_
  rintro e w1 ⟨rfl, hb1⟩
  have hF := (hb1.block gA (by omega)).trans hf1
  have hb01 : Below gA w w1 := hbA.trans (hb1.mono (by omega))
  have hz1' : gA + 1 ≤ w1.heap.size := by have := hb1.size; omega
  clear hf1 hbA hb1 hzA
  have c0 := (feed_cells hF).1
  have c1 := (feed_cells hF).2.1
  have c2 := (feed_cells hF).2.2.1
  have c3 := (feed_cells hF).2.2.2.1
  have HF := hide hF
  have HNS := hide (newSource_any ab ag lb cb lg cg zs gs fail eager w1 hlb hlg (by omega) (by omega) HNB.out HNG.out (HRB.out.below2 (hgA.out ▸ hb01)) (HRG.out.below2 (hgA.out ▸ hb01)))
  clear hF
  go_wp2_with fail
  refine HNS.out.mono ?_
  rintro e w2 ⟨g, M, rfl, hS, hM, hb2⟩
  have hb02 : Below gA w w2 := hb01.trans (hb2.mono (by omega))
  have hF2 := (hb2.block gA (by omega)).trans HF.out
  have hz2 : w1.heap.size ≤ w2.heap.size := hb2.size
  obtain ⟨B, hBe⟩ : ∃ B, B = w1.heap.size := ⟨_, rfl⟩
  rw [← hBe] at hM hz2 hz1'
  have hMl := hS.lt.1
  have HNI := hide (newIn_any 29 (.pointer (some ⟨g, 0, none⟩)) most mo w2 hmo.out)
  have HI0 := hide (newIn_src HB8.out hS hM hz2 mo (.iface 29 (.pointer (some ⟨g, 0, none⟩))))
  have HMB := hide hM
  have hU : Upd Noth w2 (w2.alloc (.cells #[.int .i64 0, .int .i64 0, .int .i64 0, .iface 29 (.pointer (some ⟨g, 0, none⟩)), .int .i64 (mo : Int), .slice none 0 0] 47)) := (Upd.refl _ _).alloc _
  have HF3 := hide (hU.heap hF2 (fun e => e))
  have HB03 := hide (hb02.trans (hU.toBelow.mono (by omega)))
  have hz3 : w2.heap.size < (w2.alloc (.cells #[.int .i64 0, .int .i64 0, .int .i64 0, .iface 29 (.pointer (some ⟨g, 0, none⟩)), .int .i64 (mo : Int), .slice none 0 0] 47)).heap.size := by simp
  clear hS hM hb2 hb01 c0 c1 c2 c3 HF HNS hF2 hBe hb02 hU hMl
  go_wp2_with fail
  refine HNI.out.mono ?_
  rintro e w3 ⟨rfl, rfl⟩
  generalize w2.alloc (.cells #[.int .i64 0, .int .i64 0, .int .i64 0, .iface 29 (.pointer (some ⟨g, 0, none⟩)), .int .i64 (mo : Int), .slice none 0 0] 47) = w3 at *
  obtain ⟨gc, hgc⟩ : ∃ gc, gc = w2.heap.size := ⟨_, rfl⟩
  rw [← hgc] at HI0 hz2 hz3 ⊢
  have HX := hide (src_fam zs gs fail eager g B M HB8.out)
  have H0 : Hid (TI4 zs gs fail eager g B gc mo M w3 0 0 w3 ⟨(0, 0), 0, 0, 0, mo, []⟩ (fun j => M j ∨ j = gc)) := hide ⟨HI0.out, fun _ h => .inl h, Upd.refl _ _, new_ok zs mo _ (by omega) (by omega), ⟨Nat.zero_le _, fun _ => rfl⟩, fun _ => rfl⟩
  clear HI0 HNI hgc
  go_wp2_with fail
  go_loopw [10, 11, 12, 13, 14, 15, 16, 17, 18, 19, 20, 21] (fun a10 a11 _ _ _ _ _ _ _ _ _ _ wr => ∃ (i hl : Nat) (x : InS (Nat × Nat)) (F : Nat → Prop), i ≤ ls ∧ a10 = .int .i64 (hl : Int) ∧ a11 = .int .i64 (i : Int) ∧ Hid (TI4 zs gs fail eager g B gc mo M w3 i hl wr x F)) (fun _ a11 _ _ _ _ _ _ _ _ _ _ _ => ls - (intOf a11).toNat)
  case atStart => exact ⟨0, 0, _, _, by omega, rfl, rfl, H0⟩
  case round =>
    clear H0
    obtain ⟨i, hl, x, F, hi, rfl, rfl, HI⟩ := hrel
    have HNA : Hid (∀ k, k < gc → k < B → ¬ (M k ∨ k = gc)) := hide (fun k hk hB e => e.elim (fun e => by have := HMB.out k e; omega) (fun e => by omega))
    have hbW : Below gA w wr := HB03.out.trans ((HI.out.up.below (n := gA) (by omega) (fun k hk e => HNA.out k (by omega) (by omega) e)))
    have HBW := hide hbW
    by_cases hlt : i < ls
    · obtain ⟨b, o, ha, hrg⟩ := HA.out.cells i hlt
      subst ha
      have hbw : b < w.heap.size := World.block_lt_of_cell? w ⟨b, o + i * 2 + 0, none⟩ (hrg 0 _ rfl)
      have hbA : b < gA := hgA.out.symm ▸ hbw
      have HRW : Hid (∀ w6, Below gA w w6 → w6.cell? ⟨b, o + i * 2, none⟩ = some (.int .i64 (Kf i)) ∧ w6.cell? ⟨b, o + i * 2 + 1, none⟩ = some (.int .i64 (Nf i))) := hide fun w6 h6 => ⟨(range_below h6 hbA hrg) 0 _ rfl, (range_below h6 hbA hrg) 1 _ rfl⟩
      have s0 := (HRW.out wr hbW).1
      have s1 := (HRW.out wr hbW).2
      have hidx : (i : Int) < (ls : Int) := by omega
      have HTOP := hide (HA.out.top i hlt)
      have hin := HI.out.isin
      have d0w := hin.g.2.2.1
      have d2w := hin.g.2.2.2.1
      have HCw := hide (calls_any hin.src)
      have hBr : B ≤ wr.heap.size := by have := HI.out.up.size; omega
      have HLF := hide (hin.lt0 HX.out)
      have HAFT : Hid (∀ (w6 : World) (y : InS (Nat × Nat)) (F' : Nat → Prop), IsIn (SrcRd zs gs fail eager g B M) B gc (.iface 29 (.pointer (some ⟨g, 0, none⟩))) w6 y F' → Upd F wr w6 →
          w6.cell? ⟨gc, 0, none⟩ = some (.int .i64 (y.at' : Int)) ∧ w6.cell? ⟨gc, 2, none⟩ = some (.int .i64 y.err) ∧ w6.cell? ⟨b, o + i * 2, none⟩ = some (.int .i64 (Kf i)) ∧ w6.cell? ⟨gA, 0, none⟩ = some (.slice ab lb cb) ∧ SrcAt w6 M zs gs fail eager g y.s.1 y.s.2) := hide fun w6 y F' h1 hu => by
        have hup : Upd (fun j => M j ∨ j = gc) w3 w6 := HI.out.up.then hu (fun j hj e => (HI.out.sub j e).elim id (fun e => by omega))
        have hb6 : Below gA w w6 := HB03.out.trans ((hup.below (n := gA) (by omega) (fun k hk e => HNA.out k (by omega) (by omega) e)))
        exact ⟨h1.g.2.2.1, h1.g.2.2.2.1, (HRW.out w6 hb6).1, (feed_cells (hup.heap HF3.out (HNA.out gA (by omega) (by omega)))).1, h1.src⟩
      clear hrg hbw hbW hin HRW
      generalize hKi : Kf i = kk at *
      generalize hNi : Nf i = nn at *
      clear hKi hNi
      go_upto_block 2 with (first
        | (go_at_call 16; refine keep (sat_any gc _ _ d0w) ?_)
        | (go_at_call 31; refine keep (serr_any gc _ _ d2w) ?_)
        | (go_at_call 24; refine keep HCw.out ?_)
        | fail)
      go_cut [10, 15, 16] (fun a10 a15 a16 wx => ∃ (y : InS (Nat × Nat)) (F' : Nat → Prop) (hl' : Nat) (e : Int) (over : Bool), a10 = .int .i64 (hl' : Int) ∧ a15 = .int .i64 e ∧ a16 = .bool over ∧ Hid (TM zs gs fail eager g B gc mo M i wr x F kk wx y F' hl' e over))
      case first =>
        by_cases k0 : kk = 0
        · subst k0
          have HB := hide (byte_any (src_leads g) HX.out wr gc x F _ mo HI.out.isin HI.out.ok (by omega) hmo2 hBr)
          go_wp2_with fail
          refine HB.out.mono ?_
          rintro e w6 ⟨F', rfl, hi1, hu1, hs1⟩
          have HTM := hide (tm_byte HB8.out HI.out hi1 hu1 hs1)
          clear hi1 hu1 hs1 HB
          go_wp2_with fail
          go_meet
          exact ⟨_, F', 0, _, false, rfl, rfl, rfl, HTM⟩
        · by_cases k1 : kk = 1
          · subst k1
            have HB := hide (bytes_any (src_leads g) HX.out wr gc x F _ mo nn HTOP.out HI.out.isin HI.out.ok (by omega) hmo2 hBr)
            go_wp2_with fail
            refine HB.out.mono ?_
            rintro e w6 ⟨v6, F', rfl, ho6, hi1, hu1, hs1, hd6⟩
            have HTM := hide (tm_bytes HB8.out nn HI.out hi1 hu1 hs1)
            obtain ⟨a6, c6, rfl, _, _, _⟩ := ho6.sliceN rfl
            clear hi1 hu1 hs1 HB ho6 hd6
            by_cases hn0 : 0 < nn
            · rw [if_pos hn0] at HTM
              go_wp2_with fail
              go_meet
              exact ⟨_, F', 0, _, false, rfl, rfl, rfl, HTM⟩
            · rw [if_neg hn0] at HTM
              go_wp2_with fail
              go_meet
              exact ⟨_, F', hl, _, false, rfl, rfl, rfl, HTM⟩
          · by_cases k2 : kk = 2
            · subst k2
              have HB := hide (num_any (src_leads g) HX.out wr gc x F _ mo HI.out.isin HI.out.ok (by omega) hmo2 hBr (fun j hj => (HLF.out j hj).2))
              go_wp2_with fail
              refine HB.out.mono ?_
              rintro e w6 ⟨F', rfl, hi1, hu1, hs1⟩
              have HTM := hide (tm_num HB8.out HI.out hi1 hu1 hs1)
              clear hi1 hu1 hs1 HB
              go_wp2_with fail
              go_meet
              exact ⟨_, F', 0, _, false, rfl, rfl, rfl, HTM⟩
            · by_cases k3 : kk = 3
              · subst k3
                have HB := hide (inend_any (src_leads g) HX.out wr gc x F _ mo HI.out.isin HI.out.ok (by omega) hBr)
                go_wp2_with fail
                refine HB.out.mono ?_
                rintro e w6 ⟨F', rfl, hi1, hu1, hs1⟩
                have HTM := hide (tm_end HB8.out HI.out hi1 hu1 hs1)
                clear hi1 hu1 hs1 HB
                generalize hq : endP (SR zs gs fail eager) x = q at *
                clear hq
                obtain ⟨bv, er, y⟩ := q
                simp only at HTM ⊢
                cases bv
                · by_cases er0 : er = 0
                  · subst er0
                    rw [if_pos ⟨rfl, rfl⟩] at HTM
                    go_wp2_with fail
                    go_meet
                    exact ⟨_, F', 1, _, false, rfl, rfl, rfl, HTM⟩
                  · rw [if_neg (fun h => er0 h.2)] at HTM
                    have er0' : (er == 0) = false := by simp [er0]
                    go_wp2_with fail
                    go_meet
                    exact ⟨_, F', hl, _, false, rfl, rfl, rfl, HTM⟩
                · rw [if_neg (fun h => by cases h.1)] at HTM
                  go_wp2_with fail
                  go_meet
                  exact ⟨_, F', hl, _, true, rfl, rfl, rfl, HTM⟩
              · have k0' : (kk == 0) = false := by simp [k0]
                have k1' : (kk == 1) = false := by simp [k1]
                have k2' : (kk == 2) = false := by simp [k2]
                have k3' : (kk == 3) = false := by simp [k3]
                have HTM : Hid (TM zs gs fail eager g B gc mo M i wr x F kk wr x F hl 0 false) := hide ⟨HI.out.isin, Upd.refl _ _, fun _ h => .inl h, HI.out.ok.mono (by omega), HI.out.pos, HI.out.held, fun _ => ⟨rfl, fun h1 h2 => by omega⟩, Nat.le_refl _, fun h => by cases h⟩
                go_wp2_with fail
                go_meet
                exact ⟨_, F, hl, _, false, rfl, rfl, rfl, HTM⟩
      case rest =>
        obtain ⟨y, F', hl', er, over, rfl, rfl, rfl, HTM⟩ := hcut
        obtain ⟨d0, d2, s0', q0, hsrc⟩ := HAFT.out wc y F' HTM.out.isin HTM.out.up
        have HC := hide (calls_any hsrc)
        have HL := hide (left_any hsrc)
        have HN := hide (HI.out.next HTM.out.isin HTM.out.up HTM.out.sub HTM.out.ok HTM.out.pos HTM.out.held)
        have hat1 := HTM.out.at1
        have hatl := HTM.out.ok.atl
        have hposl := HTM.out.pos.1
        have HPOS0 := hide HTM.out.pos.2
        have HHELD := hide HTM.out.held
        have HOV := hide HTM.out.ov
        have HEND := hide HTM.out.ended
        obtain ⟨lf, hlf⟩ : ∃ lf, lf = zs.length - y.s.2 := ⟨_, rfl⟩
        rw [← hlf] at HL
        have hlfb : lf ≤ 140737488351232 := by omega
        have hatb : y.at' ≤ 9223372036854775807 := by omega
        clear hsrc HTM HAFT HTOP HCw
        by_cases he : x.err = 0
        · rw [he]
          have a1 : ¬ (y.at' : Int) < (x.at' : Int) := by omega
          have a2 : ¬ (if (0 : Int) < most then most else 0) < (y.at' : Int) := by rw [HMO.out]; omega
          by_cases hy0 : y.err = 0
          · have hs3 : (y.at' : Int) + (hl' : Int) + (lf : Int) = (lb : Int) := by have := HPOS0.out hy0; have := HHELD.out hy0; omega
            have hat2 : y.at' + hl' ≤ lb := by omega
            rw [hy0] at d2
            cases over
            · replace hlf := hide hlf
              go_wp2_with (first
                | (go_at_call 16; refine keep (sat_any gc _ _ d0) ?_)
                | (go_at_call 31; refine keep (serr_any gc _ _ d2) ?_)
                | (go_at_call 24; refine keep HC.out ?_)
                | (go_at_call 25; refine keep HL.out ?_)
                | fail)
              go_roundw
              case rel => exact ⟨i + 1, hl', _, F', by omega, rfl, by go_num, HN⟩
              case measure => simp [intOf]; omega
            · have hlf0 : lf = 0 := by have := HOV.out rfl; omega
              subst hlf0
              have hs4 : (y.at' : Int) + (hl' : Int) = (lb : Int) := by omega
              clear hs3
              replace hlf := hide hlf
              go_wp2_with (first
                | (go_at_call 16; refine keep (sat_any gc _ _ d0) ?_)
                | (go_at_call 31; refine keep (serr_any gc _ _ d2) ?_)
                | (go_at_call 24; refine keep HC.out ?_)
                | (go_at_call 25; refine keep HL.out ?_)
                | fail)
              go_roundw
              case rel => exact ⟨i + 1, hl', _, F', by omega, rfl, by go_num, HN⟩
              case measure => simp [intOf]; omega
          · have hy0' : (y.err == 0) = false := by simp [hy0]
            cases over
            · replace hlf := hide hlf
              go_wp2_with (first
                | (go_at_call 16; refine keep (sat_any gc _ _ d0) ?_)
                | (go_at_call 31; refine keep (serr_any gc _ _ d2) ?_)
                | (go_at_call 24; refine keep HC.out ?_)
                | (go_at_call 25; refine keep HL.out ?_)
                | fail)
              go_roundw
              case rel => exact ⟨i + 1, hl', _, F', by omega, rfl, by go_num, HN⟩
              case measure => simp [intOf]; omega
            · have hlf0 : lf = 0 := by have := HOV.out rfl; omega
              subst hlf0
              replace hlf := hide hlf
              go_wp2_with (first
                | (go_at_call 16; refine keep (sat_any gc _ _ d0) ?_)
                | (go_at_call 31; refine keep (serr_any gc _ _ d2) ?_)
                | (go_at_call 24; refine keep HC.out ?_)
                | (go_at_call 25; refine keep HL.out ?_)
                | fail)
              go_roundw
              case rel => exact ⟨i + 1, hl', _, F', by omega, rfl, by go_num, HN⟩
              case measure => simp [intOf]; omega
        · obtain ⟨rfl, hee⟩ := HEND.out he
          have he' : (y.err != 0) = true := by simp [he]
          replace hlf := hide hlf
          clear HEND
          by_cases hk0 : 0 ≤ kk
          · by_cases hk3 : kk ≤ 3
            · obtain rfl := hee hk0 hk3
              clear hee
              go_wp2_with (first
                | (go_at_call 16; refine keep (sat_any gc _ _ d0) ?_)
                | (go_at_call 31; refine keep (serr_any gc _ _ d2) ?_)
                | (go_at_call 24; refine keep HC.out ?_)
                | (go_at_call 25; refine keep HL.out ?_)
                | fail)
              go_roundw
              case rel => exact ⟨i + 1, hl', _, F', by omega, rfl, by go_num, HN⟩
              case measure => simp [intOf]; omega
            · clear hee
              go_wp2_with (first
                | (go_at_call 16; refine keep (sat_any gc _ _ d0) ?_)
                | (go_at_call 31; refine keep (serr_any gc _ _ d2) ?_)
                | (go_at_call 24; refine keep HC.out ?_)
                | (go_at_call 25; refine keep HL.out ?_)
                | fail)
              go_roundw
              case rel => exact ⟨i + 1, hl', _, F', by omega, rfl, by go_num, HN⟩
              case measure => simp [intOf]; omega
          · clear hee
            go_wp2_with (first
              | (go_at_call 16; refine keep (sat_any gc _ _ d0) ?_)
              | (go_at_call 31; refine keep (serr_any gc _ _ d2) ?_)
              | (go_at_call 24; refine keep HC.out ?_)
              | (go_at_call 25; refine keep HL.out ?_)
              | fail)
            go_roundw
            case rel => exact ⟨i + 1, hl', _, F', by omega, rfl, by go_num, HN⟩
            case measure => simp [intOf]; omega
    · obtain rfl : i = ls := by omega
      have hidx : ¬ ((i : Nat) : Int) < (i : Int) := by omega
      go_wp2_with fail
      go_ret
      exact ⟨rfl, hgA.out ▸ HBW.out⟩

end Go.Proofs.Ytkginmhfpegkiaa
