/- CrcBursts: plain arithmetic, and the walk. -/
import Derived.Test.YtbjlpeophklmlabCOpen
import Derived.Test.YtbjlpeophklmlabCLives
import Derived.Test.YtbjlpeophklmlabCSkip
import Derived.BigRegion
namespace Go.Proofs.Ytbjlpeophklmlab
open Go.RowKit

/-! ### Which texts are sealed -/
theorem four_of {zs : List Int} (h : zs.length = 4) : ∃ a b c d, zs = [a, b, c, d] := by
  match zs, h with
  | [a, b, c, d], _ => exact ⟨a, b, c, d, rfl⟩
theorem le4_lt {zs : List Int} (h : zs.length = 4) (h8 : B8 zs) : le4 zs < 4294967296 := by
  obtain ⟨a, b, c, d, rfl⟩ := four_of h
  have h0 := h8 a (by simp)
  have h1 := h8 b (by simp)
  have h2 := h8 c (by simp)
  have h3 := h8 d (by simp)
  simp only [le4, List.getD_cons_zero, List.getD_cons_succ]
  omega
theorem goR_4 {zs : List Int} (r : Nat) (h : zs.length = 4) (h8 : B8 zs) : goR r zs = stn 32 (r ^^^ le4 zs) := by
  obtain ⟨a, b, c, d, rfl⟩ := four_of h
  exact goR_four r a b c d h8
theorem spell_le {zs : List Int} (h : zs.length = 4) (h8 : B8 zs) : spell (le4 zs) = zs := by
  obtain ⟨a, b, c, d, rfl⟩ := four_of h
  exact spell_le4 h8
theorem pass_iff {zs : List Int} {m : Nat} (h : zs.length = m + 4) (h8 : B8 zs) : zs.drop m = spell (sumOf (zs.take m)) ↔ goR 4294967295 zs = stn 32 4294967295 := by
  have hd : (zs.drop m).length = 4 := by rw [List.length_drop]; omega
  have hg := goR_lt (zs.take m) (show 4294967295 < 4294967296 by decide) (h8.take m)
  have hl := le4_lt hd (h8.drop m)
  have e : goR 4294967295 zs = stn 32 (goR 4294967295 (zs.take m) ^^^ le4 (zs.drop m)) := by
    conv => lhs; rw [← List.take_append_drop m zs, goR_append]
    exact goR_4 _ hd (h8.drop m)
  rw [e]
  have hs : sumOf (zs.take m) = goR 4294967295 (zs.take m) ^^^ 4294967295 := flip_xor hg
  constructor
  · intro k
    rw [k, hs, le4_spell (xor_lt hg (by decide)), xor_can]
  · intro k
    have k2 := stn_inj 32 (xor_lt hg hl) (by decide) k
    have k3 : le4 (zs.drop m) = sumOf (zs.take m) := by
      rw [hs]
      exact xor_inj (a := goR 4294967295 (zs.take m)) (by rw [k2, xor_can])
    rw [← k3, spell_le hd (h8.drop m)]

/-! ### A bit turned -/
theorem set_split (t : List Int) (j : Nat) (c : Int) (hj : j < t.length) : t.set j c = t.take j ++ c :: t.drop (j + 1) := by
  rw [List.set_eq_take_append_cons_drop, if_pos hj]
theorem goR_flip (r : Nat) (t : List Int) (j i : Nat) (hj : j < t.length) :
    goR r (t.set j (((t.getD j 0).toNat ^^^ 2 ^ i : Nat) : Int)) = goR r t ^^^ stn (8 * (t.length - j)) (2 ^ i) := by
  rw [set_split t j _ hj]
  have e : t = t.take j ++ t.getD j 0 :: t.drop (j + 1) := by
    conv => lhs; rw [← List.take_append_drop j t, getD_drop t j hj]
  conv => rhs; rw [e]
  rw [goR_append, goR_append, goR_cons, goR_cons, Int.toNat_natCast, ← Nat.xor_assoc, stn_xor, goR_xor, ← stn_add]
  congr 2
  have : (t.take j ++ t.getD j 0 :: t.drop (j + 1)).length = t.length := by rw [← e]
  rw [List.length_append, List.length_cons, List.length_take, List.length_drop] at *
  omega
theorem stn_pow (i x : Nat) : stn (x + i) (2 ^ i) = stn x 1 := by
  rw [Nat.add_comm, stn_add]
  have := stn_shift i 1
  rw [Nat.one_mul] at this
  rw [this]
theorem bit_turned (L p k j i : Nat) (hq : p + k = 8 * j + i) (hi : i < 8) (hj : j < L) : stn (8 * (L - j)) (2 ^ i) = stn (8 * L - p) (2 ^ k) := by
  have e1 : 8 * (L - j) = (8 * L - (p + k)) + i := by omega
  have e2 : 8 * L - p = (8 * L - (p + k)) + k := by omega
  rw [e1, e2, stn_pow, stn_pow]

theorem owns_set {w : World} {base g n cap j : Nat} {e : TypeId} {xs : List Value} (h : w.ownsRow base e 1 (.slice (some ⟨g, 0, none⟩) n cap) n xs) (u : Value) :
    (w.setCell ⟨g, j, none⟩ u).ownsRow base e 1 (.slice (some ⟨g, 0, none⟩) n cap) n (xs.set j u) := by
  refine ⟨by rw [List.length_set]; exact h.1, ?_⟩
  rcases h.2 with ⟨hv, _⟩ | ⟨g', cap', cur, hv, hb, hh, h1, h2, h3, h4⟩
  · cases hv
  · cases hv
    refine .inr ⟨g, cap, cur.setIfInBounds j u, rfl, hb, block_setCell hh j u, h1, h2, by rw [Array.size_setIfInBounds]; exact h3, ?_⟩
    rw [← h4, Array.toList_setIfInBounds, List.take_set]
theorem owns_cap {w : World} {base g n cap : Nat} {e : TypeId} {xs : List Value} (h : w.ownsRow base e 1 (.slice (some ⟨g, 0, none⟩) n cap) n xs) : n ≤ cap := by
  rcases h.2 with ⟨hv, _⟩ | ⟨g', cap', cur, hv, hb, hh, h1, _⟩
  · cases hv
  · cases hv
    exact h1
theorem owns_frozen {w : World} {base g n cap : Nat} {e : TypeId} {xs : List Value} (h : w.ownsRow base e 1 (.slice (some ⟨g, 0, none⟩) n cap) n xs) (j : Nat) : w.frozen? ⟨g, j, none⟩ = false := by
  rcases h.2 with ⟨hv, _⟩ | ⟨g', cap', cur, hv, hb, hh, _⟩
  · cases hv
  · cases hv
    exact frozen_row hh j

set_option maxHeartbeats 800000 in
theorem pick_any (n m : Int) (w : World) (hm : 0 < m) (hm2 : m ≤ 4611686018427387904) :
    Calls Try.prog 16 #[.int .i64 n, .int .i64 m] w fun e w' => (∃ p : Nat, e = .returned (.int .i64 p) ∧ (p : Int) < m) ∧ w' = w := by
  have hne : (m == 0) = false := by simp; omega
  have t1 := Int.lt_tmod_of_pos n hm
  have t2 := Int.tmod_lt_of_pos n hm
  by_cases hn : n.tmod m < 0
  · go_enter Try.func16, Try.ntmps16
    go_wp2
    go_ret
    exact ⟨⟨(n.tmod m + m).toNat, ret_int (by omega), by omega⟩, rfl⟩
  · go_enter Try.func16, Try.ntmps16
    go_wp2
    go_ret
    exact ⟨⟨(n.tmod m).toNat, ret_int (by omega), by omega⟩, rfl⟩

theorem byte_flip {c : Int} {i : Nat} (h0 : 0 ≤ c) (h1 : c ≤ 255) (hi : i < 8) : bits .xor .u8 c ((2 : Int) ^ i % 256) = ((c.toNat ^^^ 2 ^ i : Nat) : Int) := by
  have hp : 2 ^ i < 256 := Nat.pow_lt_pow_right (n := 8) (by decide) hi
  have e : (2 : Int) ^ i % 256 = ((2 ^ i : Nat) : Int) := by
    have e : (2 : Int) ^ i = ((2 ^ i : Nat) : Int) := by rw [Int.natCast_pow]; rfl
    rw [e]
    generalize 2 ^ i = p at hp
    omega
  obtain ⟨n, rfl⟩ := Int.eq_ofNat_of_zero_le h0
  rw [e, u8_xor_nat _ _ (by omega) hp]
  rfl
theorem set_b8 {t : List Int} (h : B8 t) (j : Nat) {c : Int} (hc : 0 ≤ c ∧ c ≤ 255) : B8 (t.set j c) := by
  intro x hx
  rcases List.mem_or_eq_of_mem_set hx with h1 | h1
  · exact h x h1
  · rw [h1]; exact hc

/-- A sealed text in which some bits of p .. p + k - 1 are turned. -/
structure Turned (t0 t : List Int) (p k bs c : Nat) : Prop where
  len : t.length = t0.length
  b8 : B8 t
  reg : goR 4294967295 t = goR 4294967295 t0 ^^^ stn (8 * t0.length - p) (bs % 2 ^ k)
  none : c = 0 ↔ bs % 2 ^ k = 0
  same : c = 0 → t = t0
  few : c ≤ k
theorem Turned.on {t0 t : List Int} {p k bs c j i : Nat} (h : Turned t0 t p k bs c) (hb : bs / 2 ^ k % 2 = 1) (hq : p + k = 8 * j + i) (hi : i < 8) (hj : j < t.length) :
    Turned t0 (t.set j (((t.getD j 0).toNat ^^^ 2 ^ i : Nat) : Int)) p (k + 1) bs (c + 1) := by
  have hlt : bs % 2 ^ k < 2 ^ k := Nat.mod_lt _ (Nat.pow_pos (by decide))
  have e := bit_on hb
  refine ⟨by rw [List.length_set]; exact h.len, set_b8 h.b8 j ?_, ?_, ?_, by omega, by have := h.few; omega⟩
  · have hc := h.b8 (t.getD j 0) (by rw [List.getD_eq_getElem?_getD, List.getElem?_eq_getElem hj]; exact List.getElem_mem _)
    have := Nat.xor_lt_two_pow (n := 8) (x := (t.getD j 0).toNat) (y := 2 ^ i) (by omega) (Nat.pow_lt_pow_right (by decide) hi)
    omega
  · rw [goR_flip _ _ _ _ hj, h.reg, e, stn_xor, ← Nat.xor_assoc, h.len, bit_turned _ p k j i hq hi (by rw [← h.len]; exact hj)]
  · constructor
    · intro h; omega
    · intro h0
      rw [e] at h0
      have h2 := xor_inj (a := bs % 2 ^ k) (b := 2 ^ k) (c := bs % 2 ^ k) (by rw [h0, Nat.xor_self])
      omega
theorem Turned.off {t0 t : List Int} {p k bs c : Nat} (h : Turned t0 t p k bs c) (hb : ¬ bs / 2 ^ k % 2 = 1) : Turned t0 t p (k + 1) bs c := by
  have e := bit_off hb
  exact ⟨h.len, h.b8, by rw [e]; exact h.reg, by rw [e]; exact h.none, h.same, by have := h.few; omega⟩
theorem Turned.start {t0 : List Int} (h8 : B8 t0) (p bs : Nat) : Turned t0 t0 p 0 bs 0 :=
  ⟨rfl, h8, by rw [Nat.pow_zero, Nat.mod_one, stn_zero, Nat.xor_zero], by rw [Nat.pow_zero, Nat.mod_one], fun _ => rfl, Nat.le_refl _⟩
theorem Turned.told {zs t : List Int} {p k bs c : Nat} (h8 : B8 zs) (hbs : bs < 4294967296) (h : Turned (zs ++ spell (sumOf zs)) t p k bs c) (hc : ¬ c = 0) : opErr t = 22 ∧ opVal t = [] := by
  have hl0 : (zs ++ spell (sumOf zs)).length = zs.length + 4 := by rw [List.length_append, spell_len]
  have h80 : B8 (zs ++ spell (sumOf zs)) := h8.append (spell_b8 _)
  have hl : t.length = zs.length + 4 := by rw [h.len, hl0]
  have p0 : goR 4294967295 (zs ++ spell (sumOf zs)) = stn 32 4294967295 := (pass_iff hl0 h80).1 (by rw [List.take_left, List.drop_left])
  have hw : ¬ bs % 2 ^ k = 0 := fun e => hc (h.none.2 e)
  have hw2 : bs % 2 ^ k < 4294967296 := Nat.lt_of_le_of_lt (Nat.mod_le _ _) hbs
  have hne : ¬ goR 4294967295 t = stn 32 4294967295 := by
    intro e
    rw [h.reg, p0] at e
    have e2 := xor_eq_self e
    exact hw (stn_inj _ hw2 (show 0 < 4294967296 by decide) (by rw [e2, stn_zero]))
  have hq : ¬ t.drop zs.length = spell (sumOf (t.take zs.length)) := fun e => hne ((pass_iff hl h.b8).1 e)
  have e1 : opErr t = 22 := by
    unfold opErr
    rw [if_neg (by omega), show t.length - 4 = zs.length by omega, if_neg hq]
  exact ⟨e1, by unfold opVal; rw [e1, if_neg (by decide)]⟩
theorem sealed_open (zs : List Int) : opErr (zs ++ spell (sumOf zs)) = 0 ∧ opVal (zs ++ spell (sumOf zs)) = zs := by
  have hl0 : (zs ++ spell (sumOf zs)).length = zs.length + 4 := by rw [List.length_append, spell_len]
  have e1 : opErr (zs ++ spell (sumOf zs)) = 0 := by
    unfold opErr
    rw [if_neg (by omega), show (zs ++ spell (sumOf zs)).length - 4 = zs.length by omega, List.take_left, List.drop_left, if_pos rfl]
  exact ⟨e1, by unfold opVal; rw [e1, if_pos rfl, hl0, Nat.add_sub_cancel, List.take_left]⟩

set_option maxRecDepth 100000 in
set_option maxHeartbeats 3200000 in
theorem crcBursts_any (a : Option Addr) (len cap : Nat) (zs : List Int) (at' : Int) (bs : Nat) (w : World) (hl : zs.length = len) (hm : len ≤ 140737488351232) (hnone : a = none → len = 0 ∧ cap = 0) (hr : Row w .u8 a zs) (h8 : B8 zs) (hbs : bs < 4294967296) :
    Calls Try.prog 4 #[.slice a len cap, .int .i64 at', .int .u32 bs] w fun e w' => e = .returned (.bool true) ∧ Below w.heap.size w w' := by
  have HR := hide hr
  have HN := hide hnone
  clear hr hnone
  go_enter Try.func4, Try.ntmps4
  go_wp2_with (first
    | (go_at_call 7; refine (lives_any _).mono ?_; rintro e w1 ⟨rfl, hb1⟩)
    | fail)
  refine (seal_any a len cap zs w1 hl hm HN.out (HR.out.below2 hb1) h8).mono ?_
  rintro e w2 ⟨v, rfl, hownB, hb2⟩
  have hown := hownB.owns
  rw [List.length_append, spell_len, hl] at hown
  clear hownB
  obtain ⟨g, c2, rfl, hg⟩ := slice_of_owns hown (by omega)
  have hbw : Below w.heap.size w w2 := hb1.trans (hb2.mono hb1.size)
  have hown := owns_mono hown hb1.size
  have hgw : w.heap.size ≤ g := Nat.le_trans hb1.size hg
  clear hb1 hb2 hg
  go_wp2_with fail
  refine (pick_any at' (8 * ((len : Int) + 4)) w2 (by omega) (by omega)).mono ?_
  rintro e w' ⟨⟨p, rfl, hp⟩, hw'⟩
  have hw'' := hw'.symm
  subst hw''
  clear hw'
  go_wp2_with fail
  have HT0 := hide (Turned.start (t0 := zs ++ spell (sumOf zs)) (h8.append (spell_b8 _)) p bs)
  have hlT : (zs ++ spell (sumOf zs)).length = len + 4 := by rw [List.length_append, spell_len, hl]
  have HSO := hide (sealed_open zs)
  have HTO : Hid (∀ t k c, Turned (zs ++ spell (sumOf zs)) t p k bs c → ¬ c = 0 → opErr t = 22 ∧ opVal t = []) := fun t k c h hc => h.told h8 hbs hc
  generalize zs ++ spell (sumOf zs) = T0 at *
  go_loopw [10, 11] (fun q10 q11 wr => ∃ (k c : Nat) (t : List Int), k ≤ 32 ∧ c ≤ k ∧ p + k ≤ 8 * (len + 4) ∧ q10 = .int .i64 c ∧ q11 = .int .i64 k ∧ Hid (Turned T0 t p k bs c) ∧ wr.ownsRow w.heap.size 5 1 (.slice (some ⟨g, 0, none⟩) (len + 4) c2) (len + 4) (t.map (Value.int .u8)) ∧ Below w.heap.size w wr) (fun _ q11 _ => 32 - (intOf q11).toNat)
  case atStart => exact ⟨0, 0, T0, by omega, by omega, by omega, rfl, rfl, HT0.out, hown, hbw⟩
  case round =>
    clear hown hbw HT0
    obtain ⟨k, c, t, hk, hck, hpk, rfl, rfl, HT, hown, hbel⟩ := hrel
    have htl : t.length = len + 4 := by rw [HT.out.len, hlT]
    by_cases hgo : k < 32 ∧ p + k < 8 * (len + 4)
    · obtain ⟨hk1, hk2⟩ := hgo
      have f1 : (k : Int) < 32 := by omega
      have f2 : (p : Int) + (k : Int) < 8 * ((len : Int) + 4) := by omega
      have hd : bs / 2 ^ k < 4294967296 := Nat.lt_of_le_of_lt (Nat.div_le_self _ _) hbs
      have ec : (bs : Int) / 2 ^ k = ((bs / 2 ^ k : Nat) : Int) := by rw [Int.natCast_ediv, Int.natCast_pow]; rfl
      by_cases hb : bs / 2 ^ k % 2 = 1
      · have h1 := and_bit hd hb
        rw [← ec] at h1
        obtain ⟨j, hj⟩ : ∃ j, j = (p + k) / 8 := ⟨_, rfl⟩
        obtain ⟨i, hi⟩ : ∃ i, i = (p + k) % 8 := ⟨_, rfl⟩
        have hjl : j < t.length := by omega
        have HN := hide (HT.out.on (j := j) (i := i) hb (by omega) (by omega) hjl)
        have hcell : wr.cell? ⟨g, j, none⟩ = some (.int .u8 (t.getD j 0)) := by
          obtain ⟨b', o', ha, hc⟩ := (row_of_owns hown) j hjl
          cases ha
          rw [Nat.zero_add] at hc
          exact hc
        have hfr := owns_frozen hown j
        have hc8 := HT.out.b8 (t.getD j 0) (by rw [List.getD_eq_getElem?_getD, List.getElem?_eq_getElem hjl]; exact List.getElem_mem _)
        have hbf := byte_flip hc8.1 hc8.2 (show i < 8 by omega)
        have HO := hide (owns_set (j := j) hown (.int .u8 (((t.getD j 0).toNat ^^^ 2 ^ i : Nat) : Int)))
        have hmap : Hid ((t.map (Value.int .u8)).set j (.int .u8 (((t.getD j 0).toNat ^^^ 2 ^ i : Nat) : Int)) = (t.set j (((t.getD j 0).toNat ^^^ 2 ^ i : Nat) : Int)).map (Value.int .u8)) := by
          show _ = _
          rw [List.map_set]
        rw [hmap.out] at HO
        have e1 : ((p : Int) + (k : Int)) / 8 = (j : Int) := by omega
        have e2 : ((p : Int) + (k : Int)) % 8 = (i : Int) := by omega
        have g1 : (0 : Int) ≤ (j : Int) := by omega
        have g2 : (j : Int) < (len : Int) + 4 := by omega
        clear hmap hown HT ec hd hb hi hj
        generalize t.getD j 0 = x at *
        generalize x.toNat ^^^ 2 ^ i = y at *
        go_wp2_with fail
        go_region
        go_wp2_with fail
        go_roundw
        case rel => exact ⟨k + 1, c + 1, _, by omega, by omega, by omega, by go_num, by go_num, HN, HO.out.drew, (hbel.setCell (by simp; omega) _).drew⟩
        case measure => simp [intOf]; omega
      · have h1 := and_nobit hd hb
        rw [← ec] at h1
        have HN := hide (HT.out.off hb)
        clear ec hd hb
        go_wp2_with fail
        go_roundw
        case rel => exact ⟨k + 1, c, t, by omega, by omega, by omega, by go_num, by go_num, HN, hown, hbel⟩
        case measure => simp [intOf]; omega
    · have hcc := owns_cap hown
      have HOP := hide (open_any (some ⟨g, 0, none⟩) (len + 4) c2 t wr htl hcc (by omega) (row_of_owns hown) HT.out.b8)
      have hsz := hbel.size
      have hA : ((k : Int) < 32 ∧ ¬ (p : Int) + (k : Int) < 8 * ((len : Int) + 4)) ∨ ¬ (k : Int) < 32 := by omega
      clear hgo hown
      by_cases hc0 : c = 0
      · subst hc0
        have hT := HT.out.same rfl
        subst hT
        rw [HSO.out.1, HSO.out.2] at HOP
        clear HT HTO HSO
        rcases hA with ⟨hA1, hA2⟩ | hA1
        all_goals
          go_wp2_with fail
          refine HOP.out.mono ?_
          rintro e w3 ⟨v3, rfl, hown3, hb3⟩
          obtain ⟨a3, c3, rfl, hr3, _⟩ := hown3.slice
          rw [hl]
          have hbel3 := hbel.trans (hb3.mono hsz)
          have HSM := hide (same_any a3 a len c3 len cap zs zs w3 (by unfold maxLen; omega) hl hl hr3 (HR.out.below2 hbel3))
          clear hr3
          rw [decide_eq_true rfl] at HSM
          clear hown3 hb3 hbel HOP
          go_wp2_with fail
          refine HSM.out.mono ?_
          rintro e w4 ⟨rfl, hst⟩
          go_wp2_with fail
          go_ret
          exact ⟨rfl, hbel3.trans (hst.below _)⟩
      · have h2 := HTO.out _ _ _ HT.out hc0
        rw [h2.1, h2.2] at HOP
        have hc1 : ((c : Int) == 0) = false := by simp; omega
        clear h2 HT HTO HSO
        rcases hA with ⟨hA1, hA2⟩ | hA1
        all_goals
          go_wp2_with fail
          refine HOP.out.mono ?_
          rintro e w3 ⟨v3, rfl, hown3, hb3⟩
          obtain ⟨a3, c3, rfl, _, _⟩ := hown3.slice
          have hbel3 := hbel.trans (hb3.mono hsz)
          clear hown3 hb3 hbel HOP
          go_wp2_with fail
          go_ret
          exact ⟨rfl, hbel3⟩

end Go.Proofs.Ytbjlpeophklmlab
