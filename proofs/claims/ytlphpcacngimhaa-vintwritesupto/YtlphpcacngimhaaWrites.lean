/- VintWrites: the walk. -/
import Derived.Test.YtlphpcacngimhaaRBytes
import Derived.Test.YtlphpcacngimhaaApart0
namespace Go.Proofs.Ytlphpcacngimhaa
open Go.RowKit

theorem infoN : (Try.prog.info? 25).map (fun i => (i.zero, i.size, i.bytes)) = some (some (.int .u64 0), 1, 8) := by kernel_rfl

theorem owns_below {w w' : World} {base : Nat} {e : TypeId} {v : Value} {n : Nat} {xs : List Value} (h : w.ownsRow base e 1 v n xs) (hb : Below w.heap.size w w') : w'.ownsRow base e 1 v n xs := by
  refine ⟨h.1, ?_⟩
  rcases h.2 with h | ⟨g, cap, cur, hv, hg, hh, r⟩
  · exact .inl h
  · exact .inr ⟨g, cap, cur, hv, hg, by rw [hb.block g (lt_of_block hh)]; exact hh, r⟩
theorem owns_blk {w w' : World} {base : Nat} {e : TypeId} {v : Value} {n : Nat} {xs : List Value} (h : w.ownsRow base e 1 v n xs) (hb : ∀ k, v.ownBlock = some k → w'.heap[k]? = w.heap[k]?) : w'.ownsRow base e 1 v n xs := by
  refine ⟨h.1, ?_⟩
  rcases h.2 with h | ⟨g, cap, cur, hv, hg, hh, r⟩
  · exact .inl h
  · exact .inr ⟨g, cap, cur, hv, hg, by rw [hb g (by rw [hv]; rfl)]; exact hh, r⟩
theorem owns_still {w w' : World} {base : Nat} {e : TypeId} {v : Value} {n : Nat} {xs : List Value} (h : w.ownsRow base e 1 v n xs) (hb : Still w w') : w'.ownsRow base e 1 v n xs := owns_below h (hb.below _)

/-- The cells of a row of bytes of one's own: bytes, not frozen. -/
theorem owns_cells {w : World} {base g n : Nat} {zs : List Int} (h : w.ownsRow base 5 1 (.slice (some ⟨g, 0, none⟩) n n) n (zs.map (Value.int .u8))) :
    (∀ i, i < n → ∃ x, w.cell? ⟨g, i, none⟩ = some (.int .u8 x)) ∧ (∀ i, w.frozen? ⟨g, i, none⟩ = false) ∧ g < w.heap.size ∧ base ≤ g := by
  have hl := h.1
  simp only [List.length_map, Nat.mul_one] at hl
  have hlt := h.lt g rfl
  refine ⟨fun i hi => ⟨zs.getD i 0, ?_⟩, fun i => ?_, hlt.2, hlt.1⟩
  · have hc := h.cells (g := g) rfl i (.int .u8 (zs.getD i 0)) (by
      rw [List.getElem?_map, List.getD, List.getElem?_eq_getElem (by omega)]; rfl)
    rwa [Addr.add_lit, Nat.zero_add] at hc
  · rcases h.2 with ⟨hv, _⟩ | ⟨g', cap, cur, hv, _, hh, _⟩
    · cases hv
    · cases hv
      simp [World.frozen?, hh]

theorem row_of_owns2 {w : World} {base : Nat} {e : TypeId} {k : IntKind} {a : Option Addr} {n cap : Nat} {zs : List Int} (h : w.ownsRow base e 1 (.slice a n cap) n (zs.map (Value.int k))) : Row w k a zs := by
  rcases h.2 with ⟨hv, hn⟩ | ⟨g, cap', cur, hv, _⟩
  · subst hn
    have hz : zs = [] := List.eq_nil_of_length_eq_zero (by simpa using h.1)
    subst hz
    exact row_nil _ _ _
  · cases hv
    exact row_of_owns h

theorem Row.kept' {w w' : World} {k : IntKind} {g gx : Nat} {zs : List Int} (h : Row w k (some ⟨g, 0, none⟩) zs) (hne : ∀ j, j < w.heap.size → j ≠ gx → w'.heap[j]? = w.heap[j]?) (hg : g ≠ gx) : Row w' k (some ⟨g, 0, none⟩) zs := by
  intro i hi
  obtain ⟨b, off, ha, hc⟩ := h i hi
  cases ha
  exact ⟨g, 0, rfl, (World.cell?_of_block (w := w) (w' := w') (a := ⟨g, 0 + i, none⟩) (hne g (World.block_lt_of_cell? w ⟨g, 0 + i, none⟩ hc) hg)).trans hc⟩

theorem cell_last {w : World} {g len : Nat} {ns : List Int} (hl : ns.length = len) (h : Row w .u64 (some ⟨g, 0, none⟩) (ns ++ [77])) : w.cell? ⟨g, len, none⟩ = some (.int .u64 77) := by
  obtain ⟨b, off, ha, hc⟩ := h len (by simp [hl])
  cases ha
  rw [Nat.zero_add] at hc
  rw [hc]
  simp [hl]

set_option maxRecDepth 100000 in
set_option maxHeartbeats 800000 in
theorem writes_some (b off len cap : Nat) (ns : List Int) (w : World) (hl : ns.length = len) (hm : len ≤ 1048576) (hb : b < w.heap.size)
    (hc : ∀ i, i < len → w.cell? ⟨b, off + i, none⟩ = some (.int .u64 (ns.getD i 0))) (h64 : Fits64 ns) :
    Calls Try.prog 4 #[.slice (some ⟨b, off, none⟩) len cap] w fun e w' => e = .returned (.bool true) ∧ Below w.heap.size w w' := by
  obtain ⟨i0, hi, hz0, hz1, hz2⟩ := info_parts infoB
  have HCL := hide hc
  have HRW : Hid (Row w .u64 (some ⟨b, off, none⟩) ns) := fun i hi => ⟨b, off, rfl, hc i (by omega)⟩
  have HNO : Hid ((some (⟨b, off, none⟩ : Addr)) = none → len = 0 ∧ cap = 0) := fun h => by cases h
  have HLE := hide (encs_len ns h64)
  clear hc
  go_enter Try.func4, Try.ntmps4
  go_wp2_with (first
    | (go_at_call 9; refine (lives_any _).mono ?_; rintro e w1 ⟨rfl, hb1⟩))
  go_loopw [4, 5] (fun s q wr => ∃ (k : Nat) (a : Option Addr) (cp : Nat), k ≤ len ∧ q = .int .i64 (k : Int) ∧ s = .slice a (encs (ns.take k)).length cp ∧ wr.ownsRow w.heap.size 5 1 (.slice a (encs (ns.take k)).length cp) (encs (ns.take k)).length ((encs (ns.take k)).map (Value.int .u8)) ∧ Below w.heap.size w wr) (fun _ q _ => len - (intOf q).toNat)
  case atStart => exact ⟨0, none, 0, by omega, rfl, rfl, World.ownsRow_nil _ _ _ _, hb1⟩
  case round =>
    obtain ⟨k, a, cp, hk, rfl, rfl, hown, hbel⟩ := hrel
    have hle := HLE.out k (by omega)
    clear hb1
    by_cases hlt : k < len
    · have hck := HCL.out k hlt
      have h64k := h64 k
      have ht := encs_take ns k (by omega)
      obtain ⟨c, hcN⟩ := Int.eq_ofNat_of_zero_le h64k.1
      rw [hcN] at hck ht h64k
      rw [Int.toNat_natCast] at ht
      have HT := hide ht
      have HCK := hide hck
      clear hcN ht hck
      have hc64 : c ≤ 18446744073709551615 := by omega
      have hel := enc_len_le c hc64
      have hz := hbel.size
      have hcell : wr.cell? ⟨b, off + k, none⟩ = some (.int .u64 (c : Int)) := (hbel.cell (p := ⟨b, off + k, none⟩) hb).trans HCK.out
      have hltI : (k : Int) < (len : Int) := by omega
      go_wp2_with fail
      refine (rbytes_any c wr hc64).mono ?_
      rintro e w2 ⟨g0, c0, rfl, hown2, hbe2⟩
      have hbel2 : Below w.heap.size w w2 := hbel.trans (hbe2.mono hz)
      have hcell2 : w2.cell? ⟨b, off + k, none⟩ = some (.int .u64 (c : Int)) := (hbel2.cell (p := ⟨b, off + k, none⟩) hb).trans HCK.out
      have HA2 := hide (owns_below hown hbe2)
      have HW2 := hide hown2
      have HS := hide (fun W => size_any (c : Int) W (by omega) (by omega))
      rw [Int.toNat_natCast, vsize_enc c hc64] at HS
      clear hown hown2 hcell hbel hbe2
      go_wp2_with (first | (go_at_call 15; refine (HS.out _).mono ?_; rintro e w' ⟨rfl, hw'⟩; have hw2 := hw'.symm; subst hw2))
      refine (bytes_any c w2 hc64).mono ?_
      rintro e w3 ⟨rfl, hown3, hbe3⟩
      have hbel3 : Below w.heap.size w w3 := hbel2.trans (hbe3.mono hbel2.size)
      have hcell3 : w3.cell? ⟨b, off + k, none⟩ = some (.int .u64 (c : Int)) := (hbel3.cell (p := ⟨b, off + k, none⟩) hb).trans HCK.out
      have H3 := hide hown3
      have B3 := hide hbe3
      clear hown3 hcell2 hbe3
      go_wp2_with fail
      refine (bytes_any c w3 hc64).mono ?_
      rintro e w4 ⟨rfl, hown4, hbe4⟩
      have hbel4 : Below w.heap.size w w4 := hbel3.trans (hbe4.mono hbel3.size)
      have hga := owns_cells H3.out
      have hgb := owns_cells hown4
      have hg0 := HW2.out.lt g0 rfl
      have z3 := B3.out.size
      have z4 := hbe4.size
      have H3a := hide (owns_below H3.out hbe4)
      have H0 := hide (owns_below (owns_below HW2.out B3.out) hbe4)
      have HA4 := hide (owns_below (owns_below HA2.out B3.out) hbe4)
      have HAlt := hide HA2.out.lt
      have H4 := hide hown4
      have hga2 := hga.2.2
      have hgb2 := hgb.2.2
      clear hown4 hcell3 H3 HW2 HA2 hga hgb
      generalize w2.heap.size = s2 at *
      generalize w3.heap.size = s3 at *
      have HSM := hide (same_any (some ⟨s2 + 1, 0, none⟩) (some ⟨g0, 0, none⟩) (enc c).length (enc c).length (enc c).length c0 (enc c) (enc c) w4 (by unfold maxLen; omega) rfl rfl (row_of_owns H3a.out) (row_of_owns H0.out))
      rw [decide_eq_true rfl] at HSM
      generalize hLc : (enc c).length = L at *
      have HLc := hide hLc
      clear hLc
      go_wp2_with fail
      refine HSM.out.mono ?_
      rintro e w5 ⟨rfl, hst5⟩
      have hcs := owns_cells (owns_still H3a.out hst5)
      have HSP := hide (spoil_any (s2 + 1) L L w5 (by unfold maxLen; omega) hcs.1 hcs.2.1)
      have hz5 : w5.heap.size = w4.heap.size := by rw [hst5.heap]
      clear hcs
      go_wp2_with (first | (go_at_call 16; refine HSP.out.mono ?_; rintro e w6 ⟨rfl, hg6⟩))
      have hob : ∀ j, (Value.slice (some ⟨g0, 0, none⟩) L c0).ownBlock = some j → j = g0 := fun j hj => by cases hj; rfl
      have hob4 : ∀ j, (Value.slice (some ⟨s3 + 1, 0, none⟩) L L).ownBlock = some j → j = s3 + 1 := fun j hj => by cases hj; rfl
      have hne : ∀ j, j < w5.heap.size → j ≠ s2 + 1 → w6.heap[j]? = w5.heap[j]? := fun j hj hn => hg6.block j hj (fun e => by cases e; exact hn rfl)
      have K0 := hide (owns_blk (w' := w6) (owns_still H0.out hst5) (fun j hj => by have := hob j hj; exact hne j (by omega) (by omega)))
      have K4 := hide (owns_blk (w' := w6) (owns_still H4.out hst5) (fun j hj => by have := hob4 j hj; exact hne j (by omega) (by omega)))
      have KA := hide (owns_blk (w' := w6) (owns_still HA4.out hst5) (fun j hj => by have := HAlt.out j hj; exact hne j (by omega) (by omega)))
      have hbel6 : Below w.heap.size w w6 := (hbel4.trans (hst5.below _)).grown hg6 (by have := hbel4.size; omega) (fun j e => by cases e; omega)
      clear HSP HSM H0 H4 HA4 H3a hne hob hob4 hst5 hg6 hbel4 hbe4 hbel3 hbel2 B3
      have HSM := hide (same_any (some ⟨s3 + 1, 0, none⟩) (some ⟨g0, 0, none⟩) L L L c0 (enc c) (enc c) w6 (by unfold maxLen; omega) HLc.out HLc.out (row_of_owns K4.out) (row_of_owns K0.out))
      rw [decide_eq_true rfl] at HSM
      have hz6 := hbel6.size
      go_wp2_with (first
        | (go_at_call 13; refine HSM.out.mono ?_; rintro e w7 ⟨rfl, hst7⟩; have hz7 : w7.heap.size = w6.heap.size := (by rw [hst7.heap]); have KA7 := owns_still KA.out hst7; have K07 := row_of_owns (owns_still K0.out hst7))
        | (at_builtin; refine append_own_any rfl (.tmp 68) (.tmp 69) 23 rfl w.heap.size 5 i0 (.int .u8 0) 1 1 Try.underlying23 hi hz0 hz1 hz2 rfl (by decide) (.slice a (encs (ns.take k)).length cp) (encs (ns.take k)).length _ rfl KA7 (some ⟨g0, 0, none⟩) L c0 ((enc c).map (Value.int .u8)) rfl (by simp [HLc.out]) (by intro h; cases h) K07.cells (ints_oneCell _ _) (by unfold maxLen; omega) (by omega) (by omega) ?_; intro v8 w8 hown8 hg8; obtain ⟨g8, c8, hv8, hge8⟩ := slice_of_owns hown8 (by omega); rw [hv8] at hown8; rw [hv8]))
      go_roundw
      case rel =>
        refine ⟨k + 1, some ⟨g8, 0, none⟩, c8, by omega, by go_num, ?_, ?_, (hbel6.trans (hst7.below _)).grown hg8 (by omega) (fun j e => (KA7.lt j e).1)⟩
        · rw [HT.out, List.length_append, HLc.out]
        · rw [HT.out, List.length_append, List.map_append, HLc.out]; exact hown8
      case measure => simp [intOf]; omega
    · obtain rfl : k = len := by omega
      have hall : ns.take k = ns := List.take_of_length_le (by omega)
      rw [hall] at hown hle
      rw [hall]
      clear hall
      have hge : ¬ (k : Int) < (k : Int) := by omega
      obtain ⟨j0, hj, hy0, hy1, hy2⟩ := info_parts infoN
      have hleA : (encs ns).length ≤ 10485760 := by omega
      have HOW := hide hown
      have z0 := hbel.size
      have HRL := hide (HRW.out.below2 hbel)
      have h64' := h64
      clear hown
      generalize hLA : (encs ns).length = LL at *
      have HLL := hide hLA
      clear hLA
      go_wp2_with (first
        | (at_make; refine wpList_make_own _ rfl _ _ 29 rfl wr.heap.size 25 j0 (.int .u64 0) 1 Try.underlying29 hj hy0 hy1 .i64 .i64 _ (k + 1) rfl rfl (by omega) (by rw [hy2]; omega) (by unfold maxLen; omega) (Nat.le_refl _) ?_; intro w1 hown1 hg1; have bw1 : Below wr.heap.size wr w1 := (Below.refl _ _).grown hg1 (Nat.le_refl _) (fun k h => by cases h))
        | (at_builtin; refine wpList_append_fits_any _ rfl (.tmp 74) (.tmp 75) 29 rfl wr.heap.size 25 j0 1 Try.underlying29 hj hy1 wr.heap.size 0 (k + 1) _ rfl hown1 (some ⟨b, off, none⟩) k cap (ns.map (Value.int .u64)) rfl (by simp [hl]) HNO.out (HRL.out.below2 bw1).cells (ints_oneCell _ _) (by omega) ?_; intro w2 hown2 hg2; simp only [Nat.zero_add, List.nil_append] at hown2; have bw2 : Below wr.heap.size wr w2 := bw1.grown hg2 bw1.size (fun k h => by cases h; exact Nat.le_refl _))
        | (at_builtin; refine wpList_append_fits_any _ rfl (.tmp 76) (.tmp 77) 29 rfl wr.heap.size 25 j0 1 Try.underlying29 hj hy1 wr.heap.size k (k + 1) _ rfl (hown2.alloc _) _ 1 _ [.int .u64 77] rfl rfl (by intro h; cases h) (by intro ad had; cases had; exact one_cell _ _ _) (by intro u hu; simp at hu; subst hu; rfl) (by omega) ?_; intro w3 hown3 hg3; have bw3 : Below wr.heap.size wr w3 := (bw2.alloc bw2.size _).grown hg3 (by have := bw2.size; simp; omega) (fun k h => by cases h; exact Nat.le_refl _)))
      have hrow3 := row_of_owns (k := .u64) (zs := ns ++ [77]) (by rw [List.map_append]; exact hown3)
      have HR3 := hide hrow3
      have hr3 : Row w3 .u64 (some ⟨wr.heap.size, 0, none⟩) ns := by
        have := hrow3.take k
        rwa [List.take_left' hl] at this
      have HR3n := hide hr3
      have hlt3 := (hown3.lt wr.heap.size rfl).2
      have hbel3 : Below w.heap.size w w3 := hbel.trans (bw3.mono z0)
      have HA3 := hide (owns_below HOW.out bw3)
      have HAL := hide HOW.out.lt
      clear hrow3 hr3 hown1 hown2 hown3 hg1 hg2 hg3 bw1 bw2 bw3 HOW HRL hbel
      generalize wr.heap.size = g at *
      have HJ3 := hide (join_any (some ⟨g, 0, none⟩) k (k + 1) ns w3 hl (by omega) HR3n.out h64')
      refine HJ3.out.mono ?_
      rintro e w4 ⟨rfl, hown4, hbe4⟩
      have HR4n := hide (HR3n.out.below2 hbe4)
      have HR4 := hide (HR3.out.below2 hbe4)
      have HA4 := hide (owns_below HA3.out hbe4)
      have hbel4 : Below w.heap.size w w4 := hbel3.trans (hbe4.mono hbel3.size)
      have h4lt := hown4.lt w3.heap.size rfl
      have H4 := hide hown4
      have z4 := hbe4.size
      have HJ4 := hide (join_any (some ⟨g, 0, none⟩) k (k + 1) ns w4 hl (by omega) HR4n.out h64')
      rw [HLL.out] at HJ4 H4
      rw [HLL.out]
      clear hown4 HJ3 HR3n HR3 HA3 hbel3 hbe4
      generalize w3.heap.size = g4 at *
      go_wp2_with fail
      refine HJ4.out.mono ?_
      rintro e w5 ⟨rfl, hown5, hbe5⟩
      have HR5n := hide (HR4n.out.below2 hbe5)
      have HR5 := hide (HR4.out.below2 hbe5)
      have HA5 := hide (owns_below HA4.out hbe5)
      have H45 := hide (owns_below H4.out hbe5)
      have hbel5 : Below w.heap.size w w5 := hbel4.trans (hbe5.mono hbel4.size)
      have h5lt := hown5.lt w4.heap.size rfl
      have H5 := hide hown5
      have z5 := hbe5.size
      clear hown5 HJ4 HR4n HR4 HA4 hbel4 hbe5 H4
      generalize w4.heap.size = g5 at *
      have HSM := hide (same_any (some ⟨g4, 0, none⟩) a LL LL LL cp (encs ns) (encs ns) w5 (by unfold maxLen; omega) HLL.out HLL.out (row_of_owns H45.out) (row_of_owns2 HA5.out))
      rw [decide_eq_true rfl] at HSM
      go_wp2_with fail
      refine HSM.out.mono ?_
      rintro e w6 ⟨rfl, hst6⟩
      have hcs := owns_cells (owns_still H45.out hst6)
      have HSP := hide (spoil_any g4 LL LL w6 (by unfold maxLen; omega) hcs.1 hcs.2.1)
      have hz6 : w6.heap.size = w5.heap.size := by rw [hst6.heap]
      clear hcs HSM
      go_wp2_with (first | (go_at_call 16; refine HSP.out.mono ?_; rintro e w7 ⟨rfl, hg7⟩))
      have hne : ∀ j, j < w6.heap.size → j ≠ g4 → w7.heap[j]? = w6.heap[j]? := fun j hj hn => hg7.block j hj (fun e => by cases e; exact hn rfl)
      have hob5 : ∀ j, (Value.slice (some ⟨g5, 0, none⟩) LL LL).ownBlock = some j → j = g5 := fun j hj => by cases hj; rfl
      have K5 := hide (owns_blk (w' := w7) (owns_still H5.out hst6) (fun j hj => by have := hob5 j hj; exact hne j (by omega) (by omega)))
      have KA := hide (owns_blk (w' := w7) (owns_still HA5.out hst6) (fun j hj => by have := HAL.out j hj; exact hne j (by omega) (by omega)))
      have hbel7 : Below w.heap.size w w7 := (hbel5.trans (hst6.below _)).grown hg7 (by have := hbel5.size; omega) (fun j e => by cases e; omega)
      have HR7n := hide ((hst6.row HR5n.out).kept' hne (by omega))
      have HR7 := hide ((hst6.row HR5.out).kept' hne (by omega))
      clear HSP H5 H45 HA5 HR5n HR5 hne hob5 hst6 hg7
      have HSM := hide (same_any (some ⟨g5, 0, none⟩) a LL LL LL cp (encs ns) (encs ns) w7 (by unfold maxLen; omega) HLL.out HLL.out (row_of_owns K5.out) (row_of_owns2 KA.out))
      rw [decide_eq_true rfl] at HSM
      go_wp2_with (first
        | (go_at_call 13; refine HSM.out.mono ?_; rintro e w8 ⟨rfl, hst8⟩)
        | (go_at_call 18; refine (nsame_any (some ⟨g, 0, none⟩) (some ⟨b, off, none⟩) k _ _ ns _ (by unfold maxLen; omega) hl (hst8.row HR7n.out) (hst8.row (HRW.out.below2 hbel7))).mono ?_; rintro e w9 ⟨rfl, hst9⟩; have h77 := cell_last hl (hst9.row (hst8.row HR7.out))))
      go_ret
      exact ⟨by simp, (hbel7.trans (hst8.below _)).trans (hst9.below _)⟩

end Go.Proofs.Ytlphpcacngimhaa
