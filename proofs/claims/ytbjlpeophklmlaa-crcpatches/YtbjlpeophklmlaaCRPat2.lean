/- The document's Patch: the walk. -/
import Derived.Test.YtbjlpeophklmlaaCRPatch
import Derived.Deep.DeepCutAuto
namespace Go.Proofs.Ytbjlpeophklmlaa
open Go.RowKit

/-- What holds between the loops: the text, and two arrays. -/
structure RP (w W : World) (len gO cO gT gB : Nat) (O : List Int) (t b : Nat → Nat) : Prop where
  own : W.ownsRow w.heap.size 5 1 (.slice (some ⟨gO, 0, none⟩) len cO) len (O.map (Value.int .u8))
  tu : Arr W gT t
  bi : Arr W gB b
  bel : Below w.heap.size w W
  ge : w.heap.size ≤ gO ∧ w.heap.size ≤ gT ∧ w.heap.size ≤ gB
  ne : gO ≠ gT ∧ gO ≠ gB ∧ gT ≠ gB
theorem owns_blk2 {w w' : World} {base g n cap : Nat} {e : TypeId} {xs : List Value} (h : w.ownsRow base e 1 (.slice (some ⟨g, 0, none⟩) n cap) n xs) (hb : w'.heap[g]? = w.heap[g]?) : w'.ownsRow base e 1 (.slice (some ⟨g, 0, none⟩) n cap) n xs :=
  owns_blk h (fun k hk => by cases hk; exact hb)
theorem RP.setO {w W : World} {len gO cO gT gB : Nat} {O : List Int} {t b : Nat → Nat} (h : RP w W len gO cO gT gB O t b) (j : Nat) (v : Int) : RP w (W.setCell ⟨gO, j, none⟩ (.int .u8 v)) len gO cO gT gB (O.set j v) t b :=
  ⟨own_set h.own j v, h.tu.blk (Below.heap_setCell _ _ _ _ (fun e => h.ne.1 e.symm)), h.bi.blk (Below.heap_setCell _ _ _ _ (fun e => h.ne.2.1 e.symm)), h.bel.setCell (p := ⟨gO, j, none⟩) h.ge.1 _, h.ge, h.ne⟩
theorem RP.setT {w W : World} {len gO cO gT gB : Nat} {O : List Int} {t b : Nat → Nat} (h : RP w W len gO cO gT gB O t b) (j x : Nat) : RP w (W.setCell ⟨gT, j, none⟩ (.int .u32 (x : Int))) len gO cO gT gB O (updF t j x) b :=
  ⟨owns_blk2 h.own (Below.heap_setCell _ _ _ _ h.ne.1), h.tu.set j x, h.bi.blk (Below.heap_setCell _ _ _ _ (fun e => h.ne.2.2 e.symm)), h.bel.setCell (p := ⟨gT, j, none⟩) h.ge.2.1 _, h.ge, h.ne⟩
theorem RP.setB {w W : World} {len gO cO gT gB : Nat} {O : List Int} {t b : Nat → Nat} (h : RP w W len gO cO gT gB O t b) (j x : Nat) : RP w (W.setCell ⟨gB, j, none⟩ (.int .u32 (x : Int))) len gO cO gT gB O t (updF b j x) :=
  ⟨owns_blk2 h.own (Below.heap_setCell _ _ _ _ h.ne.2.1), h.tu.blk (Below.heap_setCell _ _ _ _ h.ne.2.2), h.bi.set j x, h.bel.setCell (p := ⟨gB, j, none⟩) h.ge.2.2 _, h.ge, h.ne⟩
theorem RP.drew {w W : World} {len gO cO gT gB : Nat} {O : List Int} {t b : Nat → Nat} (h : RP w W len gO cO gT gB O t b) : RP w W.drew len gO cO gT gB O t b :=
  ⟨h.own.drew, h.tu.blk rfl, h.bi.blk rfl, h.bel.drew, h.ge, h.ne⟩
theorem RP.congr {w W : World} {len gO cO gT gB : Nat} {O O' : List Int} {t b t' b' : Nat → Nat} (h : RP w W len gO cO gT gB O t b) (hO : O = O') (ht : ∀ i, i < 32 → t i = t' i) (hb : ∀ i, i < 32 → b i = b' i) : RP w W len gO cO gT gB O' t' b' :=
  ⟨by rw [← hO]; exact h.own, h.tu.congr ht, h.bi.congr hb, h.bel, h.ge, h.ne⟩
theorem RP.row {w W : World} {len gO cO gT gB : Nat} {O : List Int} {t b : Nat → Nat} (h : RP w W len gO cO gT gB O t b) : Row W .u8 (some ⟨gO, 0, none⟩) O := row_of_owns h.own

theorem set_getD_self (l : List Int) (j : Nat) : l.set j (l.getD j 0) = l := by
  refine List.ext_getElem? fun i => ?_
  rw [List.getElem?_set]
  by_cases e : j = i
  · subst e
    rw [if_pos rfl]
    by_cases h : j < l.length
    · rw [if_pos h, List.getD_eq_getElem?_getD, List.getElem?_eq_getElem h]; rfl
    · rw [if_neg h, List.getElem?_eq_none (by omega)]
  · rw [if_neg e]
theorem and_bit0 {s : Nat} (h : s < 4294967296) (hb : s % 2 = 1) : (bits .and .u32 (s : Int) 1 == 0) = false := by
  rw [and_one s h, hb]; rfl
theorem and_nobit0 {s : Nat} (h : s < 4294967296) (hb : ¬ s % 2 = 1) : (bits .and .u32 (s : Int) 1 == 0) = true := by
  rw [and_one s h, show s % 2 = 0 by omega]; rfl
theorem swap_upd (k p : Nat) (t : Nat → Nat) (i : Nat) : updF (updF t k (t p)) p (t k) i = swapF k p t i := by
  unfold updF swapF
  by_cases e1 : i = p
  · rw [if_pos e1]
    by_cases e2 : i = k
    · rw [if_pos e2, ← e1, ← e2]
    · rw [if_neg e2, if_pos e1]
  · rw [if_neg e1]
    by_cases e2 : i = k
    · rw [if_pos e2, if_pos e2]
    · rw [if_neg e2, if_neg e2, if_neg e1]
theorem comb_on (j : Nat) {S : Nat → Bool} {b : Nat → Nat} (h : S j = true) : comb (j + 1) S b = comb j S b ^^^ b j := by
  rw [comb, if_pos h]
theorem comb_off (j : Nat) {S : Nat → Bool} {b : Nat → Nat} (h : S j = false) : comb (j + 1) S b = comb j S b := by
  rw [comb, if_neg (by rw [h]; decide), Nat.xor_zero]
theorem own_block {w : World} {base g n cap : Nat} {e : TypeId} {xs : List Value} (h : w.ownsRow base e 1 (.slice (some ⟨g, 0, none⟩) n cap) n xs) : ∃ cur : Array Value, w.heap[g]? = some (.cells cur e (0, 0)) ∧ n ≤ cap ∧ cap ≤ maxLen ∧ cur.size = cap ∧ cur.toList.take n = xs := by
  rcases h.2 with ⟨hv, _⟩ | ⟨g', cap', cur, hv, hb, hh, h1, h2, h3, h4⟩
  · cases hv
  · cases hv
    rw [Nat.mul_one] at h3 h4
    exact ⟨cur, hh, h1, h2, h3, h4⟩
theorem four_cell (W : World) (X : List Value) (T : TypeId) : ∀ j v, X[j]? = some v → (W.alloc (.cells X.toArray T)).cell? (Addr.add ⟨W.heap.size, 0, none⟩ j) = some v := fun j v hv => by
  have e : Addr.add ⟨W.heap.size, 0, none⟩ j = ⟨W.heap.size, j, none⟩ := by unfold Addr.add; simp; exact fun h => h.symm
  rw [e, cell_of_row _ _ _ _ _ _ (heap_alloc_new W _)]
  simpa using hv
theorem zt_take {zs : List Int} {m : Nat} (h : m + 4 ≤ zs.length) : (zt zs m).take m = zs.take m := by
  unfold zt
  have hl : (zs.take m).length = m := by rw [List.length_take]; omega
  exact List.take_left' hl
theorem zt_drop {zs : List Int} {m : Nat} (h : m + 4 ≤ zs.length) : (zt zs m).drop (m + 4) = zs.drop (m + 4) := by
  unfold zt
  have hl : (zs.take m ++ spell 0).length = m + 4 := by rw [List.length_append, List.length_take, spell_len]; omega
  rw [← List.append_assoc]
  exact List.drop_left' hl
theorem splice_row {W : World} {g m v len cap : Nat} {cur : List Value} {zs : List Int} (hh : W.heap[g]? = some (.cells (splice cur m ((spell v).map (Value.int .u8))).toArray 5 (0, 0))) (hc : cur.take len = (zt zs m).map (Value.int .u8)) (hl : zs.length = len) (h4 : m + 4 ≤ len) (h1 : len ≤ cap) (h2 : cap ≤ maxLen) (h3 : cur.length = cap) :
    Row W .u8 (some ⟨g, 0, none⟩) (zs.take m ++ (spell v ++ zs.drop (m + 4))) := by
  have hS : ((spell v).map (Value.int .u8)).length = 4 := by rw [List.length_map, spell_len]
  have hL : (zs.take m ++ (spell v ++ zs.drop (m + 4))).length = len := by
    rw [List.length_append, List.length_append, spell_len, List.length_take, List.length_drop]; omega
  have e1 : cur.take m = (zs.take m).map (Value.int .u8) := by
    rw [← zt_take (by omega), List.map_take, ← hc, List.take_take, Nat.min_eq_left (by omega)]
  have e2 : cur.drop (m + 4) = (zs.drop (m + 4)).map (Value.int .u8) ++ cur.drop len := by
    rw [← zt_drop (m := m) (zs := zs) (by omega), List.map_drop, ← hc]
    conv => lhs; rw [← List.take_append_drop len cur]
    rw [List.drop_append_of_le_length (by rw [List.length_take]; omega)]
  have e3 : splice cur m ((spell v).map (Value.int .u8)) = (zs.take m ++ (spell v ++ zs.drop (m + 4))).map (Value.int .u8) ++ cur.drop len := by
    unfold splice
    rw [hS, e1, e2]
    simp
  rw [e3] at hh
  have hown : W.ownsRow 0 5 1 (.slice (some ⟨g, 0, none⟩) len cap) len ((zs.take m ++ (spell v ++ zs.drop (m + 4))).map (Value.int .u8)) := by
    refine ⟨by rw [List.length_map, hL, Nat.mul_one], .inr ⟨g, cap, _, rfl, Nat.zero_le _, hh, h1, h2, ?_, ?_⟩⟩
    · rw [List.size_toArray, List.length_append, List.length_map, hL, List.length_drop]; omega
    · rw [Nat.mul_one]
      exact List.take_left' (by rw [List.length_map, hL])
  exact row_of_owns hown
def pow8 (i : Nat) : Nat := 2 ^ i
theorem shl8 {i : Nat} (hi : i < 8) : (2 : Int) ^ i % 256 = ((2 ^ i : Nat) : Int) := by
  have hp : 2 ^ i < 256 := Nat.pow_lt_pow_right (n := 8) (by decide) hi
  have e : (2 : Int) ^ i = ((2 ^ i : Nat) : Int) := by rw [Int.natCast_pow]; rfl
  rw [e]
  generalize 2 ^ i = p at hp
  omega
theorem shl32 {i : Nat} (hi : i < 32) : (2 : Int) ^ i % 4294967296 = ((2 ^ i : Nat) : Int) := by
  have hp := pow_lt32 hi
  have e : (2 : Int) ^ i = ((2 ^ i : Nat) : Int) := by rw [Int.natCast_pow]; rfl
  rw [e]
  generalize 2 ^ i = p at hp
  omega

theorem RP.start {w w8 : World} {len gO cO : Nat} {O : List Int} (h : w8.ownsRow w.heap.size 5 1 (.slice (some ⟨gO, 0, none⟩) len cO) len (O.map (Value.int .u8))) (hb : Below w.heap.size w w8) (hg : w.heap.size ≤ gO) :
    RP w ((w8.alloc (.cells zero32 56)).alloc (.cells zero32 56)) len gO cO w8.heap.size (w8.heap.size + 1) O (fun _ => 0) (fun _ => 0) := by
  have hz : ∀ i, i < 32 → zero32[i]? = some (.int .u32 (((0 : Nat) : Int))) := fun i hi => by
    rw [zero32_eq, Array.getElem?_replicate, if_pos hi]; rfl
  have hgl : gO < w8.heap.size := (h.lt gO rfl).2
  refine ⟨owns_blk2 h ?_, ⟨zero32, heap_alloc2_old _ _ _, rfl, hz⟩, ⟨zero32, heap_alloc2_new _ _ _, rfl, hz⟩, (hb.alloc hb.size _).alloc ?_ _, ⟨hg, hb.size, Nat.le_succ_of_le hb.size⟩, ⟨by omega, by omega, by omega⟩⟩
  · rw [Below.heap_alloc _ _ _ (by simp; omega), Below.heap_alloc _ _ _ hgl]
  · have := hb.size
    simp; omega

set_option maxRecDepth 100000 in
set_option maxHeartbeats 6400000 in
theorem rpatch_good (b o len cap m want : Nat) (zs : List Int) (w : World) (hl : zs.length = len) (hm : len ≤ 140737488351232) (h4 : m + 4 ≤ len) (hw : want < 4294967296) (hr : Row w .u8 (some ⟨b, o, none⟩) zs) (h8 : B8 zs) :
    Calls Try.prog 25 #[.slice (some ⟨b, o, none⟩) len cap, .int .i64 m, .int .u32 want] w fun e w' => ∃ g c, e = .returned (.tuple #[.slice (some ⟨g, 0, none⟩) len c, .int .i64 0]) ∧ w.heap.size ≤ g ∧ Row w' .u8 (some ⟨g, 0, none⟩) (ptText zs m want) ∧ Below w.heap.size w w' := by
  obtain ⟨i0, hi, hz0, hz1, hz2⟩ := info_parts infoByte
  have HR := hide hr
  have hmx : len ≤ maxLen := by unfold maxLen; omega
  have HZS := hide (zt_sets (zs := zs) (m := m) (by omega))
  have hzl : (zt zs m).length = len := by rw [zt_len (by omega), hl]
  have hz8 := zt_b8 m h8
  have hs0 := sumOf_lt (zt zs m)
  have HS0 : Hid (∀ W a c, Row W .u8 a (zt zs m) → Calls Try.prog 18 #[.slice a len c] W fun e w' => e = .returned (.int .u32 (sumOf (zt zs m) : Nat)) ∧ w' = W) := fun W a c h => rsum_any a len c (zt zs m) W hzl hmx h hz8
  have hu1 : ¬ (m : Int) < 0 := by omega
  have hu2 : ¬ (len : Int) < 4 := by omega
  have hu3 : ¬ (len : Int) - 4 < (m : Int) := by omega
  clear hr
  go_enter Try.func25, Try.ntmps25
  go_wp2_with (first
    | (at_builtin; refine append_b rfl (.tmp 35) (.tmp 36) 23 rfl w.heap.size 5 i0 Try.underlying23 hi hz0 hz1 hz2 (.slice (some ⟨w.heap.size, 0, none⟩) 0 0) [] rfl (OwnB.made #[] 0 (Nat.le_refl _) (by unfold maxLen; omega) rfl (by intro u hu; cases hu)) (some ⟨b, o, none⟩) len cap zs rfl hl (by intro h; cases h) (HR.out.alloc _) (by simp; omega) (by simp) ?_; intro v4 w4 hown4 hg4; simp only [List.nil_append] at hown4)
    | fail)
  have hb4 : Below w.heap.size w w4 := ((Below.refl _ _).alloc (Nat.le_refl _) _).grown hg4 (by simp) (fun k h => by cases h; exact Nat.le_refl _)
  have o4 := hown4.owns
  rw [hl] at o4
  obtain ⟨gO, cO, rfl, hgO⟩ := slice_of_owns o4 (by omega)
  have hgl : gO < w4.heap.size := (o4.lt gO rfl).2
  clear hown4 hg4
  refine wp_loop_rounds 5 ?_
  rw [rounds_succ]
  obtain ⟨y0, c0⟩ := own_cell o4 m (by omega)
  have fz0 := own_frozen o4 m
  go_wp2_with fail
  have o5 := own_set o4 m 0
  have hb5 := hb4.setCell (p := ⟨gO, m, none⟩) hgO (.int .u8 0)
  have hgl5 : gO < (w4.setCell ⟨gO, m, none⟩ (.int .u8 0)).heap.size := (o5.lt gO rfl).2
  generalize w4.setCell ⟨gO, m, none⟩ (.int .u8 0) = w5 at o5 hb5 hgl5 ⊢
  clear o4 hb4 hgl c0 fz0
  rw [rounds_succ]
  obtain ⟨y1, c1⟩ := own_cell o5 (m + 1) (by omega)
  have fz1 := own_frozen o5 (m + 1)
  go_wp2_with fail
  have o6 := own_set o5 (m + 1) 0
  have hb6 := hb5.setCell (p := ⟨gO, m + 1, none⟩) hgO (.int .u8 0)
  generalize w5.setCell ⟨gO, m + 1, none⟩ (.int .u8 0) = w6 at o6 hb6 ⊢
  clear o5 hb5 hgl5 c1 fz1
  rw [rounds_succ]
  obtain ⟨y2, c2⟩ := own_cell o6 (m + 2) (by omega)
  have fz2 := own_frozen o6 (m + 2)
  go_wp2_with fail
  have o7 := own_set o6 (m + 2) 0
  have hb7 := hb6.setCell (p := ⟨gO, m + 2, none⟩) hgO (.int .u8 0)
  generalize w6.setCell ⟨gO, m + 2, none⟩ (.int .u8 0) = w7 at o7 hb7 ⊢
  clear o6 hb6 c2 fz2
  rw [rounds_succ]
  obtain ⟨y3, c3⟩ := own_cell o7 (m + 3) (by omega)
  have fz3 := own_frozen o7 (m + 3)
  go_wp2_with fail
  have o8 := own_set o7 (m + 3) 0
  have hb8 := hb7.setCell (p := ⟨gO, m + 3, none⟩) hgO (.int .u8 0)
  generalize w7.setCell ⟨gO, m + 3, none⟩ (.int .u8 0) = w8 at o8 hb8 ⊢
  clear o7 hb7 c3 fz3
  rw [HZS.out] at o8
  have HO8 := hide o8
  rw [rounds_succ]
  go_wp2_with fail
  refine keep (HS0.out w8 _ _ (row_of_owns o8)) ?_
  go_wp2_with fail
  have HRP := hide (RP.start HO8.out hb8 hgO)
  clear HO8 o8 hb8
  have HK : Hid (∃ K, K = 8 * zs.length - 8 * m) := ⟨_, rfl⟩
  obtain ⟨K, HK⟩ := HK.out
  replace HK := hide HK
  generalize hgB : w8.heap.size + 1 = gB at HRP ⊢
  generalize w8.heap.size = gT at HRP ⊢
  clear hgB
  change Code.wp _ _ _ _ ((w8.alloc (.cells zero32 56)).alloc (.cells zero32 56))
  generalize (w8.alloc (.cells zero32 56)).alloc (.cells zero32 56) = w9 at HRP ⊢
  go_loopw [13] (fun q wr => ∃ (k : Nat) (t b : Nat → Nat), k ≤ 32 ∧ q = .int .i64 k ∧ Hid (RP w wr len gO cO gT gB (zt zs m) t b) ∧ Hid (∀ i, i < k → t i = stn K (2 ^ i) ∧ b i = 2 ^ i)) (fun i _ => 32 - (intOf i).toNat)
  case atStart => exact ⟨0, _, _, by omega, rfl, HRP, fun i hi => absurd hi (Nat.not_lt_zero i)⟩
  case round =>
    clear HRP
    obtain ⟨k, t, bb, hk, rfl, HP, HI⟩ := hrel
    by_cases hlt : k < 32
    · obtain ⟨y, hy⟩ := own_cell HP.out.own (m + k / 8) (by omega)
      have hfy := own_frozen HP.out.own (m + k / 8)
      have hct := HP.out.tu.cell hlt
      have hft := HP.out.tu.fr k
      have hcb := HP.out.bi.cell hlt
      have hfb := HP.out.bi.fr k
      have h88 : k % 8 < 8 := Nat.mod_lt _ (by decide)
      have hj : m + k / 8 < len := by omega
      have hj1 : m ≤ m + k / 8 ∧ m + k / 8 < m + 4 := by omega
      have h2p := shl32 hlt
      go_wp2_with fail
      rw [shl8 h88]
      have h1 := hide (HP.out.setO (m + k / 8) ((2 ^ (k % 8) : Nat) : Int))
      have hp8 : (0 : Int) ≤ ((2 ^ (k % 8) : Nat) : Int) ∧ ((2 ^ (k % 8) : Nat) : Int) ≤ 255 := by
        have hp : 2 ^ (k % 8) < 256 := Nat.pow_lt_pow_right (n := 8) (by decide) h88
        generalize 2 ^ (k % 8) = x at hp
        omega
      have hZ8 := set_b8' hz8 (m + k / 8) hp8
      have hZl : ((zt zs m).set (m + k / 8) ((2 ^ (k % 8) : Nat) : Int)).length = len := by rw [List.length_set]; exact hzl
      have hsb := sum_bit (zs := zs) (m := m) (by omega) h8 hlt
      have hback : ((zt zs m).set (m + k / 8) ((2 ^ (k % 8) : Nat) : Int)).set (m + k / 8) 0 = zt zs m := by
        rw [List.set_set, ← zt_at (zs := zs) (m := m) (j := m + k / 8) (by omega) hj1.1 hj1.2]
        exact set_getD_self _ _
      rw [← HK.out] at hsb
      clear hy hfy hct hft hcb hfb
      generalize wr.setCell ⟨gO, m + k / 8, none⟩ (.int .u8 ((2 ^ (k % 8) : Nat) : Int)) = w10 at h1 ⊢
      have HSM := hide (rsum_any (some ⟨gO, 0, none⟩) len cO _ w10 hZl hmx h1.out.row hZ8)
      have hsl := sumOf_lt ((zt zs m).set (m + k / 8) ((2 ^ (k % 8) : Nat) : Int))
      have h2 := u32_xor_nat _ _ hsl hs0
      rw [hsb] at h2
      have HBK := hide hback
      clear hsb hZ8 hZl hback
      generalize (zt zs m).set (m + k / 8) ((2 ^ (k % 8) : Nat) : Int) = Z at *
      generalize 2 ^ (k % 8) = pk at *
      refine keep HSM.out ?_
      clear HSM
      obtain ⟨y, hy⟩ := own_cell h1.out.own (m + k / 8) (by omega)
      have hfy := own_frozen h1.out.own (m + k / 8)
      have hct := h1.out.tu.cell hlt
      have hft := h1.out.tu.fr k
      have hcb := h1.out.bi.cell hlt
      have hfb := h1.out.bi.fr k
      have n1 := h1.out.ne.1
      have n2 := h1.out.ne.2.1
      have n3 := h1.out.ne.2.2
      have n4 := n1.symm
      have n5 := n2.symm
      have n6 := n3.symm
      have HX : Hid (∃ x, x = stn K (2 ^ k)) := ⟨_, rfl⟩
      obtain ⟨x, HX⟩ := HX.out
      rw [← HX] at h2
      replace HX := hide HX
      have HQ : Hid (∃ q, q = 2 ^ k) := ⟨_, rfl⟩
      obtain ⟨q, HQ⟩ := HQ.out
      rw [← HQ] at h2p
      replace HQ := hide HQ
      generalize sumOf Z = s1 at *
      go_wp2_with fail
      go_roundw
      case rel =>
        refine ⟨k + 1, _, _, by omega, by go_num, hide ((((h1.out.setT k x).setB k q).setO (m + k / 8) 0).congr HBK.out (fun _ _ => rfl) (fun _ _ => rfl)), hide fun i hi => ?_⟩
        unfold updF
        by_cases e : i = k
        · rw [if_pos e, if_pos e, HX.out, HQ.out, e]; exact ⟨rfl, rfl⟩
        · rw [if_neg e, if_neg e]; exact HI.out i (by omega)
      case measure => simp [intOf]; omega
    · obtain rfl : k = 32 := by omega
      rw [show ((32 : Nat) : Int) = 32 from rfl]
      have HG : Hid (Gau K t bb 0) := hide ((Gau.start K).congr (fun i hi => ⟨(HI.out i hi).1.symm, (HI.out i hi).2.symm⟩))
      clear HI hlt hk
      have hnx := u32_xor_nat want (sumOf (zt zs m)) hw hs0
      have HN : Hid (∃ n, n = want ^^^ sumOf (zt zs m)) := ⟨_, rfl⟩
      obtain ⟨need, HN⟩ := HN.out
      have hnl : need < 4294967296 := by rw [HN]; exact xor_lt hw hs0
      rw [← HN] at hnx
      replace HN := hide HN
      go_wp2_with fail
      go_loopw [15, 16] (fun q15 q16 wr => ∃ (k st : Nat) (t b : Nat → Nat), k ≤ 32 ∧ q15 = .int .u32 (st : Int) ∧ q16 = .int .i64 k ∧ Hid (RP w wr len gO cO gT gB (zt zs m) t b) ∧ Hid (Gau K t b k) ∧ Hid (st = need % 2 ^ k)) (fun _ i _ => 32 - (intOf i).toNat)
      case atStart => exact ⟨0, 0, t, bb, by omega, rfl, rfl, HP, HG, hide (by rw [Nat.pow_zero, Nat.mod_one])⟩
      case round =>
        clear HP HG
        obtain ⟨k, st, t, bb, hk, rfl, rfl, HP, HG, HST⟩ := hrel
        by_cases hlt : k < 32
        · go_wp2_with fail
          go_loop [17] (fun q => ∃ p : Nat, k ≤ p ∧ p ≤ 32 ∧ q = .int .i64 p ∧ Hid (∀ i, k ≤ i → i < p → (t i).testBit k = false)) (fun i => 32 - (intOf i).toNat)
          case atStart => exact ⟨k, Nat.le_refl _, by omega, rfl, fun i h1 h2 => by omega⟩
          case round =>
            obtain ⟨p, hkp, hp, rfl, HF⟩ := hrel
            by_cases hp32 : p < 32
            · have hct := HP.out.tu.cell hp32
              have htl : t p < 4294967296 := by rw [HG.out.eqs p hp32]; exact stn_lt K (HG.out.lt p hp32)
              have hd : t p / 2 ^ k < 4294967296 := Nat.lt_of_le_of_lt (Nat.div_le_self _ _) htl
              have ec : (t p : Int) / 2 ^ k = ((t p / 2 ^ k : Nat) : Int) := by rw [Int.natCast_ediv, Int.natCast_pow]; rfl
              by_cases hb : t p / 2 ^ k % 2 = 1
              · have h1 := and_bit0 hd hb
                rw [← ec] at h1
                have HB : Hid ((t p).testBit k = true) := hide (by rw [Nat.testBit_eq_decide_div_mod_eq, hb]; rfl)
                clear ec hd hb
                have hck := HP.out.tu.cell hlt
                have hfk := HP.out.tu.fr k
                have hfp := HP.out.tu.fr p
                have HTK : Hid (∃ x, x = t p) := ⟨_, rfl⟩
                obtain ⟨x, HX⟩ := HTK.out
                rw [← HX] at hct h1 htl
                replace HX := hide HX
                have HTK : Hid (∃ x, x = t k) := ⟨_, rfl⟩
                obtain ⟨y, HY⟩ := HTK.out
                rw [← HY] at hck
                replace HY := hide HY
                clear HTK HF
                go_wp2_with fail
                clear h1
                go_cut [17] (fun s17 wx => s17 = .int .i64 p ∧ Hid (RP w wx len gO cO gT gB (zt zs m) (swapF k p t) bb))
                case first =>
                  have hQ : RP w (((wr.setCell ⟨gT, k, none⟩ (.int .u32 (x : Int))).setCell ⟨gT, p, none⟩ (.int .u32 (y : Int))).drew) len gO cO gT gB (zt zs m) (swapF k p t) bb := by
                    refine (((HP.out.setT k x).setT p y).congr rfl (fun i _ => ?_) (fun _ _ => rfl)).drew
                    rw [HX.out, HY.out]
                    exact swap_upd k p t i
                  replace hQ := hide hQ
                  by_cases e : k = p
                  · subst e
                    obtain rfl : x = y := HX.out.trans HY.out.symm
                    go_region
                    all_goals (try go_wp2_with fail)
                    all_goals go_meet
                    all_goals exact ⟨rfl, hQ⟩
                  · have e' : ¬ p = k := fun h => e h.symm
                    go_region
                    all_goals (try go_wp2_with fail)
                    all_goals go_meet
                    all_goals exact ⟨rfl, hQ⟩
                case rest =>
                  obtain ⟨rfl, HP2⟩ := hcut
                  clear hct hck hfk hfp htl
                  have hct := HP2.out.bi.cell hp32
                  have hck := HP2.out.bi.cell hlt
                  have hfk := HP2.out.bi.fr k
                  have hfp := HP2.out.bi.fr p
                  have HTK : Hid (∃ x, x = bb p) := ⟨_, rfl⟩
                  obtain ⟨x2, HX2⟩ := HTK.out
                  rw [← HX2] at hct
                  replace HX2 := hide HX2
                  have HTK : Hid (∃ x, x = bb k) := ⟨_, rfl⟩
                  obtain ⟨y2, HY2⟩ := HTK.out
                  rw [← HY2] at hck
                  replace HY2 := hide HY2
                  clear HTK
                  go_wp2_with fail
                  go_cut [17] (fun s17 wx => s17 = .int .i64 p ∧ Hid (RP w wx len gO cO gT gB (zt zs m) (swapF k p t) (swapF k p bb)))
                  case first =>
                    have hQ : RP w (((wc.setCell ⟨gB, k, none⟩ (.int .u32 (x2 : Int))).setCell ⟨gB, p, none⟩ (.int .u32 (y2 : Int))).drew) len gO cO gT gB (zt zs m) (swapF k p t) (swapF k p bb) := by
                      refine (((HP2.out.setB k x2).setB p y2).congr rfl (fun _ _ => rfl) (fun i _ => ?_)).drew
                      rw [HX2.out, HY2.out]
                      exact swap_upd k p bb i
                    replace hQ := hide hQ
                    by_cases e : k = p
                    · subst e
                      obtain rfl : x2 = y2 := HX2.out.trans HY2.out.symm
                      go_region
                      all_goals (try go_wp2_with fail)
                      all_goals go_meet
                      all_goals exact ⟨rfl, hQ⟩
                    · have e' : ¬ p = k := fun h => e h.symm
                      go_region
                      all_goals (try go_wp2_with fail)
                      all_goals go_meet
                      all_goals exact ⟨rfl, hQ⟩
                  case rest =>
                    obtain ⟨rfl, HP3⟩ := hcut
                    have HG3 := hide (HG.out.swap hlt hkp hp32)
                    have HTK : Hid ((swapF k p t k).testBit k = true) := hide (by unfold swapF; rw [if_pos rfl]; exact HB.out)
                    clear hct hck hfk hfp HP HP2 HG HX HY HX2 HY2 HB
                    generalize swapF k p t = t1 at HP3 HG3 HTK
                    generalize swapF k p bb = b1 at HP3 HG3
                    go_wp2_with fail
                    go_loopw [18] (fun q wr => ∃ (i : Nat) (t b : Nat → Nat), i ≤ 32 ∧ q = .int .i64 i ∧ Hid (RP w wr len gO cO gT gB (zt zs m) t b) ∧ Hid (Gau K t b k) ∧ Hid (∀ j, j < 32 → (j < i ∨ j = k) → (t j).testBit k = decide (j = k))) (fun i _ => 32 - (intOf i).toNat)
                    case atStart =>
                      refine ⟨0, t1, b1, by omega, rfl, HP3, HG3, hide fun j _ hj => ?_⟩
                      rcases hj with hj | rfl
                      · exact absurd hj (Nat.not_lt_zero j)
                      · rw [HTK.out]; simp
                    case round =>
                      clear HP3 HG3 HTK
                      obtain ⟨i, t1, b1, hi32, rfl, HP, HG, HD⟩ := hrel
                      by_cases hilt : i < 32
                      · by_cases hik : i = k
                        · subst hik
                          go_wp2_with fail
                          go_roundw
                          case rel => exact ⟨i + 1, t1, b1, by omega, by go_num, HP, HG, hide fun j hj h => HD.out j hj (by omega)⟩
                          case measure => simp [intOf]; omega
                        · have hik2 : ¬ (i : Int) = (k : Int) := by omega
                          have hik3 : ((i : Int) == (k : Int)) = false := by simp; omega
                          have hct := HP.out.tu.cell hilt
                          have htl : t1 i < 4294967296 := by rw [HG.out.eqs i hilt]; exact stn_lt K (HG.out.lt i hilt)
                          have htk : t1 k < 4294967296 := by rw [HG.out.eqs k hlt]; exact stn_lt K (HG.out.lt k hlt)
                          have hd : t1 i / 2 ^ k < 4294967296 := Nat.lt_of_le_of_lt (Nat.div_le_self _ _) htl
                          have ec : (t1 i : Int) / 2 ^ k = ((t1 i / 2 ^ k : Nat) : Int) := by rw [Int.natCast_ediv, Int.natCast_pow]; rfl
                          by_cases hb : t1 i / 2 ^ k % 2 = 1
                          · have h1 := and_bit hd hb
                            rw [← ec] at h1
                            have HB : Hid ((t1 i).testBit k = true) := hide (by rw [Nat.testBit_eq_decide_div_mod_eq, hb]; rfl)
                            have hx1 := u32_xor_nat _ _ htl htk
                            have hx2 := u32_xor_nat _ _ (HG.out.lt i hilt) (HG.out.lt k hlt)
                            clear ec hd hb
                            have hck := HP.out.tu.cell hlt
                            have hfi := HP.out.tu.fr i
                            have HE1 : Hid (∃ x, x = t1 i) := ⟨_, rfl⟩
                            obtain ⟨x, HX⟩ := HE1.out
                            have HE1 : Hid (∃ x, x = t1 k) := ⟨_, rfl⟩
                            obtain ⟨y, HY⟩ := HE1.out
                            have HE1 : Hid (∃ x, x = x ∧ x = t1 i ^^^ t1 k) := ⟨_, rfl, rfl⟩
                            obtain ⟨z, _, HZ⟩ := HE1.out
                            rw [← HZ] at hx1
                            rw [← HX] at hct htl h1 hx1
                            rw [← HY] at hck htk hx1
                            replace HX := hide HX
                            replace HY := hide HY
                            replace HZ := hide HZ
                            clear HE1
                            go_wp2_with fail
                            clear h1
                            go_cut [18] (fun s18 wx => s18 = .int .i64 i ∧ Hid (RP w wx len gO cO gT gB (zt zs m) (addF i k t1) b1))
                            case first =>
                              have hQ : RP w ((wr.setCell ⟨gT, i, none⟩ (.int .u32 (z : Int))).drew) len gO cO gT gB (zt zs m) (addF i k t1) b1 := by
                                refine ((HP.out.setT i z).congr rfl (fun j _ => ?_) (fun _ _ => rfl)).drew
                                rw [HZ.out]
                                unfold updF addF
                                by_cases e : j = i
                                · rw [if_pos e, if_pos e, e]
                                · rw [if_neg e, if_neg e]
                              replace hQ := hide hQ
                              go_region
                              all_goals (try go_wp2_with fail)
                              all_goals go_meet
                              all_goals exact ⟨rfl, hQ⟩
                            case rest =>
                              obtain ⟨rfl, HP2⟩ := hcut
                              clear hct hck hfi htl htk hx1
                              have hct := HP2.out.bi.cell hilt
                              have hck := HP2.out.bi.cell hlt
                              have hfi := HP2.out.bi.fr i
                              have HE1 : Hid (∃ x, x = b1 i) := ⟨_, rfl⟩
                              obtain ⟨x2, HX2⟩ := HE1.out
                              have HE1 : Hid (∃ x, x = b1 k) := ⟨_, rfl⟩
                              obtain ⟨y2, HY2⟩ := HE1.out
                              have HE1 : Hid (∃ x, x = b1 i ^^^ b1 k) := ⟨_, rfl⟩
                              obtain ⟨z2, HZ2⟩ := HE1.out
                              have hxl := HG.out.lt i hilt
                              have hyl := HG.out.lt k hlt
                              rw [← HZ2] at hx2
                              rw [← HX2] at hct hx2 hxl
                              rw [← HY2] at hck hx2 hyl
                              replace HX2 := hide HX2
                              replace HY2 := hide HY2
                              replace HZ2 := hide HZ2
                              clear HE1
                              go_wp2_with fail
                              have hQ : RP w ((wc.setCell ⟨gB, i, none⟩ (.int .u32 (z2 : Int))).drew) len gO cO gT gB (zt zs m) (addF i k t1) (addF i k b1) := by
                                refine ((HP2.out.setB i z2).congr rfl (fun _ _ => rfl) (fun j _ => ?_)).drew
                                rw [HZ2.out]
                                unfold updF addF
                                by_cases e : j = i
                                · rw [if_pos e, if_pos e, e]
                                · rw [if_neg e, if_neg e]
                              replace hQ := hide hQ
                              have hQ2 : Hid (∀ j, j < 32 → (j < i + 1 ∨ j = k) → (addF i k t1 j).testBit k = decide (j = k)) := hide fun j hj h => by
                                unfold addF
                                by_cases e : j = i
                                · rw [if_pos e, e, Nat.testBit_xor, HB.out, HD.out k hlt (Or.inr rfl), decide_eq_true rfl, decide_eq_false hik]; rfl
                                · rw [if_neg e]; exact HD.out j hj (by omega)
                              have HG2 := hide (HG.out.add hlt hilt hik)
                              go_region
                              all_goals (go_wp2_with fail)
                              all_goals go_roundw
                              case rel => exact ⟨i + 1, _, _, by omega, by go_num, hQ, HG2, hQ2⟩
                              case measure => simp [intOf]; omega
                          · have h1 := and_nobit hd hb
                            rw [← ec] at h1
                            have HB : Hid ((t1 i).testBit k = false) := hide (by rw [Nat.testBit_eq_decide_div_mod_eq, show t1 i / 2 ^ k % 2 = 0 by omega]; rfl)
                            clear ec hd hb htk
                            generalize hx : t1 i = x at hct h1 htl
                            replace hx := hide hx
                            go_wp2_with fail
                            go_roundw
                            case rel =>
                              refine ⟨i + 1, t1, b1, by omega, by go_num, HP, HG, hide fun j hj h => ?_⟩
                              by_cases e : j = i
                              · rw [e, HB.out, decide_eq_false hik]
                              · exact HD.out j hj (by omega)
                            case measure => simp [intOf]; omega
                      · obtain rfl : i = 32 := by omega
                        have HG4 := hide (HG.out.next (fun j hj => HD.out j hj (Or.inl hj)))
                        clear HD HG
                        have hd : need / 2 ^ k < 4294967296 := Nat.lt_of_le_of_lt (Nat.div_le_self _ _) hnl
                        have hsl : st < 4294967296 := by rw [HST.out]; exact Nat.lt_of_le_of_lt (Nat.mod_le _ _) hnl
                        have ec : (need : Int) / 2 ^ k = ((need / 2 ^ k : Nat) : Int) := by rw [Int.natCast_ediv, Int.natCast_pow]; rfl
                        by_cases hb : need / 2 ^ k % 2 = 1
                        · have h1 := and_bit hd hb
                          rw [← ec] at h1
                          have h2p := shl32 hlt
                          have hql := pow_lt32 hlt
                          have HB := hide (bit_on hb)
                          have HQ : Hid (∃ q, q = 2 ^ k) := ⟨_, rfl⟩
                          obtain ⟨q, HQ⟩ := HQ.out
                          rw [← HQ] at h2p hql
                          have hsx := u32_xor_nat st q hsl hql
                          have HS2 : Hid (st ^^^ q = need % 2 ^ (k + 1)) := hide (by rw [HB.out, HQ, HST.out])
                          replace HQ := hide HQ
                          clear ec hd hb
                          generalize st ^^^ q = st2 at *
                          go_wp2_with fail
                          go_roundw
                          case rel => exact ⟨k + 1, st2, _, _, by omega, rfl, by go_num, HP, HG4, HS2⟩
                          case measure => simp [intOf]; omega
                        · have h1 := and_nobit hd hb
                          rw [← ec] at h1
                          have HS2 : Hid (st = need % 2 ^ (k + 1)) := hide (by rw [bit_off hb, HST.out])
                          clear ec hd hb
                          go_wp2_with fail
                          go_roundw
                          case rel => exact ⟨k + 1, st, _, _, by omega, rfl, by go_num, HP, HG4, HS2⟩
                          case measure => simp [intOf]; omega
              · have h1 := and_nobit0 hd hb
                rw [← ec] at h1
                have HB : Hid ((t p).testBit k = false) := hide (by rw [Nat.testBit_eq_decide_div_mod_eq, show t p / 2 ^ k % 2 = 0 by omega]; rfl)
                clear ec hd hb
                generalize hx : t p = x at hct h1 htl
                replace hx := hide hx
                go_wp2_with fail
                go_round
                case rel =>
                  refine ⟨p + 1, by omega, by omega, by go_num, hide fun i hi1 hi2 => ?_⟩
                  by_cases e : i = p
                  · rw [e]; exact HB.out
                  · exact HF.out i hi1 (by omega)
                case measure => simp [intOf]; omega
            · obtain ⟨p', h1, h2, h3⟩ := HG.out.pivot hlt
              rw [HF.out p' h1 (by omega)] at h3
              cases h3
        · obtain rfl : k = 32 := by omega
          have hst : need = st := by rw [HST.out]; exact (Nat.mod_eq_of_lt hnl).symm
          subst hst
          clear HST hlt hk
          go_wp2_with fail
          go_loop [19, 20] (fun q19 q20 => ∃ j v : Nat, j ≤ 32 ∧ q19 = .int .u32 (v : Int) ∧ q20 = .int .i64 j ∧ v < 4294967296 ∧ Hid (v = comb j (fun i => need.testBit i) bb)) (fun _ i => 32 - (intOf i).toNat)
          case atStart => exact ⟨0, 0, by omega, rfl, rfl, by decide, hide rfl⟩
          case round =>
            obtain ⟨j, v, hj, rfl, rfl, hv, HV⟩ := hrel
            by_cases hlt : j < 32
            · have hcb := HP.out.bi.cell hlt
              have hbl := HG.out.lt j hlt
              have hd : need / 2 ^ j < 4294967296 := Nat.lt_of_le_of_lt (Nat.div_le_self _ _) hnl
              have ec : (need : Int) / 2 ^ j = ((need / 2 ^ j : Nat) : Int) := by rw [Int.natCast_ediv, Int.natCast_pow]; rfl
              by_cases hb : need / 2 ^ j % 2 = 1
              · have h1 := and_bit hd hb
                rw [← ec] at h1
                have hbit : need.testBit j = true := by rw [Nat.testBit_eq_decide_div_mod_eq, hb]; rfl
                have HV2 : Hid (v ^^^ bb j = comb (j + 1) (fun i => need.testBit i) bb) := hide (by rw [comb_on j hbit, HV.out])
                have hx := u32_xor_nat v (bb j) hv hbl
                have hv2 : v ^^^ bb j < 4294967296 := xor_lt hv hbl
                clear ec hd hb hbit
                generalize v ^^^ bb j = v2 at *
                generalize bb j = x at hcb hbl hx
                go_wp2_with fail
                go_round
                case rel => exact ⟨j + 1, v2, by omega, by first | rfl | go_num, by go_num, hv2, HV2⟩
                case measure => simp [intOf]; omega
              · have h1 := and_nobit hd hb
                rw [← ec] at h1
                have hbit : need.testBit j = false := by rw [Nat.testBit_eq_decide_div_mod_eq, show need / 2 ^ j % 2 = 0 by omega]; rfl
                have HV2 : Hid (v = comb (j + 1) (fun i => need.testBit i) bb) := hide (by rw [comb_off j hbit, HV.out])
                clear ec hd hb hbit hcb hbl
                go_wp2_with fail
                go_round
                case rel => exact ⟨j + 1, v, by omega, by first | rfl | go_num, by go_num, hv, HV2⟩
                case measure => simp [intOf]; omega
            · obtain rfl : j = 32 := by omega
              have HT : Hid (zs.take m ++ (spell v ++ zs.drop (m + 4)) = ptText zs m want) := hide (by
                refine gauss_only (by omega) h8 hw hv ?_
                rw [← HK.out, HV.out, HG.out.solve need hnl, HN.out])
              clear HG HV hlt hj
              obtain ⟨cur, hcur, hcc, hcm, hcs, hct⟩ := own_block HP.out.own
              have hsz0 := HP.out.bel.size
              have HX : Hid (∃ X, X = (spell v).map (Value.int .u8)) := ⟨_, rfl⟩
              obtain ⟨X, HX⟩ := HX.out
              have HF := hide (four_any v wr.drew hv)
              rw [← HX] at HF
              have hXl : X.length = 4 := by rw [HX, List.length_map, spell_len]
              have HX1 : Hid (∀ u ∈ X, u.oneCell' = true) := hide (by rw [HX]; intro u hu; obtain ⟨x, _, rfl⟩ := List.mem_map.1 hu; rfl)
              replace HX := hide HX
              have hgs : gO < wr.heap.size := lt_of_block hcur
              have HGA : Hid ((wr.drew.alloc (.cells X.toArray 5)).heap[gO]? = some (.cells cur.toList.toArray 5 (0, 0))) := hide (by rw [Below.heap_alloc _ _ _ (show gO < wr.drew.heap.size from hgs), Array.toArray_toList]; exact hcur)
              have HBA : Hid (Below w.heap.size w (wr.drew.alloc (.cells X.toArray 5))) := hide (HP.out.bel.drew.alloc hsz0 _)
              have HCA := hide (four_cell wr.drew X 5)
              have HSZ : Hid ((Try.prog.info? 5).map (·.size) = some 1) := hide (by rw [hi]; show some i0.size = some 1; rw [hz1])
              have hcl : cur.toList.length = cO := by rw [Array.length_toList]; exact hcs
              have HFIN : Hid (∀ W : World, W.heap[gO]? = some (.cells (splice cur.toList m X).toArray 5 (0, 0)) → Row W .u8 (some ⟨gO, 0, none⟩) (ptText zs m want)) := hide (fun W hW => by
                rw [← HT.out]
                rw [HX.out] at hW
                exact splice_row hW hct hl h4 hcc hcm hcl)
              have hmc : (m : Int) ≤ (len : Int) := by omega
              have hmc2 : ¬ (m : Int) = (cO : Int) := by omega
              have hmc3 : ¬ m = cO := by omega
              clear hcur hct HX
              go_wp2_with fail
              go_region_held3 (fun _ => True) (trivial) (first
                | (go_at_call 41; refine HF.out.mono ?_; rintro e w1 ⟨rfl, rfl⟩)
                | (refine step_copy_splice rfl (.tmp 180) (.tmp 182) 23 23 rfl 5 Try.underlying23 HSZ.out (some ⟨gO, m, none⟩) (some ⟨wr.drew.heap.size, 0, none⟩) (len - m) (cO - m) 4 4 (by simp [Act.eval]) (by simp [Act.eval]) gO m cur.toList 5 HGA.out X (by rw [hXl]; exact (Nat.min_eq_left (by omega)).symm) (fun _ => ⟨rfl, _, rfl, HCA.out⟩) (by omega) HX1.out w.heap.size w HBA.out hgO ?_; intro w2 HG2 hb2)
                | fail)
              all_goals go_wp2_with fail
              all_goals go_ret2
              all_goals exact ⟨gO, cO, rfl, hgO, HFIN.out _ HG2.out, hb2⟩

end Go.Proofs.Ytbjlpeophklmlaa
