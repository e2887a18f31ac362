/- block: the document's Builder: Add, Bytes. -/
import Derived.Test.YtjnldmbjeiejdaaG34
import Derived.Test.YtjnldmbjeiejdaaG42
import Derived.Test.YtjnldmbjeiejdaaG51
import Derived.Deep.RegionLaw
import Derived.Test.YtjnldmbjeiejdaaG35
import Derived.Test.YtjnldmbjeiejdaaG47
import Derived.Test.YtjnldmbjeiejdaaG39
namespace Go.Proofs.Ytjnldmbjeiejdaa
open Go.RowKit

/-- A document's Builder in a cell: a list of entries in a row of its own; the keys and values lie elsewhere. -/
structure RbR (W : World) (N gy k : Nat) (cs : Array Value) (v : Value) (Es : List Ent) : Prop where
  blk : W.heap[gy]? = some (.cells cs 59 (0, 0))
  at' : cs[k]? = some v
  o : W.ownsRow N 25 2 v Es.length (cellsOf Es)
  ok : ∀ i (h : i < Es.length), Es[i].Ok W
  sep : ∀ i (h : i < Es.length) x, (Es[i].ka = some x ∧ 0 < Es[i].ks.length) ∨ (Es[i].va = some x ∧ 0 < Es[i].vs.length) → x.block < N
  g : Good (kvs Es)
  dy : ∀ b, v.ownBlock = some b → b ≠ gy
  gN : N ≤ gy
theorem RbR.c {W : World} {N gy k : Nat} {cs : Array Value} {v : Value} {Es : List Ent} (h : RbR W N gy k cs v Es) : W.cell? ⟨gy, k, none⟩ = some v := by rw [cell_of_row _ _ _ _ _ _ h.blk]; exact h.at'
theorem RbR.fr {W : World} {N gy k : Nat} {cs : Array Value} {v : Value} {Es : List Ent} (h : RbR W N gy k cs v Es) : W.frozen? ⟨gy, k, none⟩ = false := frozen_blk h.blk k
theorem RbR.ens {W : World} {N gy k : Nat} {cs : Array Value} {v : Value} {Es : List Ent} (h : RbR W N gy k cs v Es) : ∃ a b c, v = .slice a Es.length c ∧ (0 < Es.length → a = some ⟨b, 0, none⟩) ∧ Ens W b 0 Es ∧ Es.length ≤ c := by
  by_cases h0 : 0 < Es.length
  · obtain ⟨g, cap, rfl, _⟩ := owns2_slice h.o h0
    have hc := h.o.cells (g := g) rfl
    refine ⟨_, g, cap, rfl, fun _ => rfl, ⟨fun i hi => ?_, fun i hi => ?_, h.ok⟩, ?_⟩
    · have := hc _ _ (cellsOf_get Es i hi).1
      rwa [Addr.add_lit] at this
    · have := hc _ _ (cellsOf_get Es i hi).2
      rwa [Addr.add_lit, ← Nat.add_assoc] at this
    · rcases h.o.2 with ⟨hv, _⟩ | ⟨g, cap, cur, hv, _, _, h1, _⟩
      · cases hv
      · cases hv; exact h1
  · have h1 : Es.length = 0 := by omega
    have hE : ∀ b, Ens W b 0 Es := fun b => ⟨fun i hi => absurd hi (by omega), fun i hi => absurd hi (by omega), fun i hi => absurd hi (by omega)⟩
    rcases h.o.2 with ⟨hv, _⟩ | ⟨g, cap, cur, hv, _⟩
    · exact ⟨none, 0, 0, by rw [hv, h1], fun h => absurd h h0, hE 0, by omega⟩
    · exact ⟨_, g, cap, by rw [hv], fun h => absurd h h0, hE g, by omega⟩
theorem RbR.upd {W W' : World} {N gy k : Nat} {cs : Array Value} {v : Value} {Es : List Ent} {S : Nat → Prop} (h : RbR W N gy k cs v Es) (hu : Upd S W W') (hs : ¬ S gy) (hv : ∀ b, v.ownBlock = some b → ¬ S b) (hn : ∀ b, b < N → ¬ S b) : RbR W' N gy k cs v Es :=
  ⟨hu.heap h.blk hs, h.at', own_upd2 h.o hu hv, fun i hi => (h.ok i hi).upd hu (fun x hx h0 => hn _ (h.sep i hi x (.inl ⟨hx, h0⟩))) (fun x hx h0 => hn _ (h.sep i hi x (.inr ⟨hx, h0⟩))), h.sep, h.g, h.dy, h.gN⟩

theorem bld_blk {Es : List Ent} (hg : Good (kvs Es)) {n : Nat} {r : Int} (hb : bldE Es n r) : bldL Es r = blk (kvs Es) := by
  by_cases h0 : 0 < Es.length
  · obtain ⟨_, rfl⟩ := good_bld hg h0 hb
    unfold bldL
    rw [if_pos rfl]
  · obtain rfl : Es = [] := List.eq_nil_of_length_eq_zero (by omega)
    unfold bldE at hb
    rw [if_pos (by simp)] at hb
    unfold bldL
    rw [hb.1]
    rfl

set_option maxRecDepth 100000 in
set_option maxHeartbeats 800000 in
theorem rbytes_any2 {W : World} {N gy k : Nat} {cs : Array Value} {v : Value} {Es : List Ent} (h : RbR W N gy k cs v Es) :
    Calls Try.prog 30 #[.pointer (some ⟨gy, k, none⟩)] W fun e w' => ∃ a c, e = .returned (.slice a (blk (kvs Es)).length c) ∧ Row w' .u8 a (blk (kvs Es)) ∧ (∀ x, a = some x → W.heap.size ≤ x.block) ∧ Below W.heap.size W w' := by
  have hg := h.g
  have c0 := h.c
  obtain ⟨a, b, c, rfl, ha, hE, _⟩ := h.ens
  have h64 := hg.n64
  rw [kvs_len] at h64
  have HB := hide (rbuild_any a b 0 Es.length c Es W rfl (by omega) ha hE)
  clear h ha
  go_enter Try.func30, Try.ntmps30
  go_wp2_with fail
  refine HB.out.mono ?_
  rintro e w1 ⟨a1, c1, n, r, rfl, hb, hr, _, hx, hbl⟩
  have hbe : bldL Es r = blk (kvs Es) := bld_blk hg hb
  rw [hbe] at hr ⊢
  have HF := hide (And.intro hr (And.intro hx hbl))
  clear hr hx hbl hb hbe
  go_wp2_with fail
  go_ret
  exact ⟨a1, c1, rfl, HF.out.1, HF.out.2.1, HF.out.2.2⟩

def RAddPost (W : World) (N gy k : Nat) (cs : Array Value) (v : Value) (Es' : List Ent) (r : Int) (e : Ending) (w' : World) : Prop :=
  e = .returned (.int .i64 r) ∧ ∃ cs' v', RbR w' N gy k cs' v' Es' ∧ Upd (fun i => i = gy ∨ v.ownBlock = some i) W w' ∧ (∀ b, v'.ownBlock = some b → v.ownBlock = some b ∨ W.heap.size ≤ b) ∧ cs'.size = cs.size ∧ ∀ j, j ≠ k → cs'[j]? = cs[j]?
/-- Nothing is added. -/
theorem RbR.same {W w' : World} {N gy k : Nat} {cs : Array Value} {v : Value} {Es : List Ent} (h : RbR W N gy k cs v Es) (hb : Below W.heap.size W w') (r : Int) : RAddPost W N gy k cs v Es r (.returned (.int .i64 r)) w' :=
  ⟨rfl, cs, v, h.upd (Upd.of_below hb Noth) (fun e => e) (fun _ _ e => e) (fun _ _ e => e), Upd.of_below hb _, fun _ hb => .inl hb, rfl, fun _ _ => rfl⟩
/-- An entry is put behind. -/
theorem RbR.added {W w4 w6 : World} {N gy k n : Nat} {cs : Array Value} {v : Value} {Es : List Ent} (h : RbR W N gy k cs v Es) (hb : Below W.heap.size W w4) (en : Ent) (ok : en.Ok W) (hsep : ∀ x, (en.ka = some x ∧ 0 < en.ks.length) ∨ (en.va = some x ∧ 0 < en.vs.length) → x.block < N) (hG : Good (kvs (Es ++ [en]))) (hn : Es.length = n) (X : Obj) (g6 c6 : Nat)
    (o6 : w6.ownsRow N 25 2 (.slice (some ⟨g6, 0, none⟩) (n + 1) c6) (n + 1) (cellsOf Es ++ [en.kv, en.vv])) (gr6 : (w4.alloc X).grownBy w6 v.ownBlock) (k6 : v.ownBlock = some g6 ∨ (w4.alloc X).heap.size ≤ g6) :
    RAddPost W N gy k cs v (Es ++ [en]) 0 (.returned (.int .i64 0)) (w6.setCell ⟨gy, k, none⟩ (.slice (some ⟨g6, 0, none⟩) (n + 1) c6)) := by
  have hgy : gy < W.heap.size := lt_of_block h.blk
  have hb5 : Below W.heap.size W (w4.alloc X) := hb.alloc hb.size _
  have u2 : Upd (fun i => v.ownBlock = some i) (w4.alloc X) w6 := Upd.of_grown gr6 (fun k hk _ => hk)
  have u3 := set_upd w6 gy k (.slice (some ⟨g6, 0, none⟩) (n + 1) c6)
  have hvy : v.ownBlock ≠ some gy := fun e => h.dy gy e rfl
  have hz := hb5.size
  have hg6 : g6 ≠ gy := fun e => by
    rcases k6 with h1 | h1
    · rw [e] at h1; exact hvy h1
    · omega
  have hvN : ∀ b, v.ownBlock = some b → N ≤ b := fun b hb => (h.o.lt b hb).1
  have hyN : ∀ b, b < N → v.ownBlock ≠ some b := fun b hb e => by have := hvN b e; omega
  have u12 : Upd (fun i => v.ownBlock = some i) W w6 := (Upd.of_below hb5 _).then u2 (fun i _ e => e)
  have hyS : ∀ x : Addr, x.block < N → x.block ≠ gy := fun x hx e => by have := h.gN; omega
  have hks : k < cs.size := by
    have h1 := h.at'
    rcases Nat.lt_or_ge k cs.size with h2 | h2
    · exact h2
    · rw [Array.getElem?_eq_none h2] at h1; cases h1
  have hlast : ∀ i (hi : i < (Es ++ [en]).length), (∃ h' : i < Es.length, (Es ++ [en])[i] = Es[i]) ∨ (Es ++ [en])[i] = en := fun i hi => by
    by_cases h' : i < Es.length
    · exact .inl ⟨h', List.getElem_append_left h'⟩
    · refine .inr ?_
      rw [List.getElem_append_right (by omega)]
      simp
  have hall : ∀ i (hi : i < (Es ++ [en]).length), (Es ++ [en])[i].Ok W ∧ ∀ x, ((Es ++ [en])[i].ka = some x ∧ 0 < (Es ++ [en])[i].ks.length) ∨ ((Es ++ [en])[i].va = some x ∧ 0 < (Es ++ [en])[i].vs.length) → x.block < N := fun i hi => by
    rcases hlast i hi with ⟨h', e⟩ | e
    · rw [e]; exact ⟨h.ok i h', h.sep i h'⟩
    · rw [e]; exact ⟨ok, hsep⟩
  refine ⟨rfl, cs.setIfInBounds k (.slice (some ⟨g6, 0, none⟩) (n + 1) c6), .slice (some ⟨g6, 0, none⟩) (n + 1) c6, ⟨block_setCell (u12.heap h.blk hvy) k _, ?_, ?_, fun i hi => ?_, fun i hi => (hall i hi).2, hG, fun b hb => by cases hb; exact hg6, h.gN⟩, (u12.mono (fun i _ e => .inr e)).trans (u3.mono (fun i _ e => .inl e)), fun b hb => ?_, by simp, fun j hj => ?_⟩
  · simp [hks]
  · rw [cellsOf_one, List.length_append, List.length_singleton, hn]
    exact own_upd2 o6 u3 (fun b hb e => by cases hb; exact hg6 e)
  · refine (((hall i hi).1.upd u12 (fun x hx h0 => hyN _ ((hall i hi).2 x (.inl ⟨hx, h0⟩))) (fun x hx h0 => hyN _ ((hall i hi).2 x (.inr ⟨hx, h0⟩))))).upd u3 (fun x hx h0 => hyS x ((hall i hi).2 x (.inl ⟨hx, h0⟩))) (fun x hx h0 => hyS x ((hall i hi).2 x (.inr ⟨hx, h0⟩)))
  · cases hb
    exact k6.imp id (fun e => Nat.le_trans hz e)
  · rw [Array.getElem?_setIfInBounds]
    simp [Ne.symm hj]

set_option maxRecDepth 100000 in
set_option maxHeartbeats 1600000 in
theorem radd_any {W : World} {N gy k : Nat} {cs : Array Value} {v : Value} {Es : List Ent} (h : RbR W N gy k cs v Es) (en : Ent) (ok : en.Ok W) (hsep : ∀ x, (en.ka = some x ∧ 0 < en.ks.length) ∨ (en.va = some x ∧ 0 < en.vs.length) → x.block < N) (hN : N ≤ W.heap.size) (Es' : List Ent) (ad : Int) (had : ad = addE (kvs Es) en.ks en.vs) (hEs : Es' = if ad = 0 then Es ++ [en] else Es) :
    Calls Try.prog 28 #[.pointer (some ⟨gy, k, none⟩), .agg #[en.kv, en.vv]] W (RAddPost W N gy k cs v Es' ad) := by
  obtain ⟨a, b, c, rfl, ha, hE, _⟩ := h.ens
  have h64 := h.g.n64
  rw [kvs_len] at h64
  have HSAME := hide (fun (w' : World) (hb : Below W.heap.size W w') (r : Int) => h.same hb r)
  have hb1 : Below W.heap.size W (W.alloc (.cells #[en.kv, en.vv] 25)) := (Below.refl _ _).alloc (Nat.le_refl _) _
  have y := two_new2 W en.kv en.vv 25
  have y0 := y.1
  have y1 := y.2
  have hgy : gy < W.heap.size := World.block_lt_of_cell? W ⟨gy, k, none⟩ h.c
  have c0 := (hb1.cell (p := ⟨gy, k, none⟩) hgy).trans h.c
  have HADD : Hid (ad = if chkE en.ks.length en.vs.length ≠ 0 then chkE en.ks.length en.vs.length else if Es.length = 64 then 61 else if cmpI (ahd (kvs Es)) en.ks < 0 then 0 else 51) := by show _ = _; rw [had]; unfold addE; rw [kvs_len]
  have H := hide h
  have OK := hide ok
  have HES := hide hEs
  clear had hEs
  have HE := hide hE
  have HA := hide ha
  have B1 := hide hb1
  unfold Ent.kv Ent.vv at y0 y1 c0 B1 ⊢
  clear h ok hE ha hb1 y
  obtain ⟨nk, hnk⟩ : ∃ nk, en.ks.length = nk := ⟨_, rfl⟩
  obtain ⟨nv, hnv⟩ : ∃ nv, en.vs.length = nv := ⟨_, rfl⟩
  rw [hnk, hnv] at y0 y1 c0 B1 HADD ⊢
  obtain ⟨w1, hw1⟩ : ∃ w1, w1 = W.alloc (.cells #[.slice en.ka nk en.kc, .slice en.va nv en.vc] 25) := ⟨_, rfl⟩
  rw [← hw1] at y0 y1 c0 B1
  have z1 : w1.heap.size = W.heap.size + 1 := by rw [hw1]; simp
  have HCK := hide (rcheck_any en.ka en.va nk en.kc nv en.vc w1)
  go_enter Try.func28, Try.ntmps28
  go_upto_region 1 with fail
  rw [← hw1]
  replace hw1 := hide hw1
  have HFIT := hide (fun h => fits_key (k := nk) (v := nv) h)
  generalize chkE nk nv = ck at *
  obtain ⟨n, hn⟩ : ∃ n, Es.length = n := ⟨_, rfl⟩
  rw [hn] at c0 h64 HADD HA
  replace hn := hide hn
  go_wp2_with fail
  refine HCK.out.mono ?_
  rintro e w2 ⟨rfl, b2⟩
  have B2 := hide (B1.out.trans (b2.mono B1.out.size))
  have z12 := b2.size
  replace y0 := (b2.cell (p := ⟨W.heap.size, 0, none⟩) (show W.heap.size < w1.heap.size by omega)).trans y0
  replace y1 := (b2.cell (p := ⟨W.heap.size, 1, none⟩) (show W.heap.size < w1.heap.size by omega)).trans y1
  replace c0 := (b2.cell (p := ⟨gy, k, none⟩) (show gy < w1.heap.size by omega)).trans c0
  clear b2 HCK
  by_cases hck : ck = 0
  · subst hck
    by_cases h6 : n = 64
    · subst h6
      have hA : ad = 61 := by rw [HADD.out, if_neg (by simp), if_pos rfl]
      subst hA
      have HF := hide (HSAME.out w2 B2.out 61)
      obtain rfl : Es' = Es := by rw [HES.out, if_neg (by decide)]
      go_wp2_with fail
      go_ret
      exact HF.out
    · have hn6 : ((n : Int) == 64) = false := beq_eq_false_iff_ne.2 (by omega)
      have HADD2 : Hid (ad = if cmpI (ahd (kvs Es)) en.ks < 0 then 0 else 51) := by show _ = _; rw [HADD.out, if_neg (by simp), if_neg h6]
      have hfit := HFIT.out rfl
      obtain ⟨cv, hcv⟩ : ∃ cv, cv = cmpI (ahd (kvs Es)) en.ks := ⟨_, rfl⟩
      rw [← hcv] at HADD2
      clear HADD HFIT
      go_upto_region 6 with fail
      go_cut [41] (fun s41 wx => s41 = .bool (decide (¬ cv < 0)) ∧ Hid (Below w2.heap.size w2 wx))
      case first =>
        by_cases h0 : n = 0
        · subst h0
          have hE0 : Es = [] := List.eq_nil_of_length_eq_zero hn.out
          have hcn : cv < 0 := by
            rw [hcv, hE0, show kvs ([] : List Ent) = [] from rfl, ahd_nil]
            cases hK : en.ks with
            | nil => rw [hK] at hnk; simp at hnk; omega
            | cons x y => rw [cmpI_nil_cons]; decide
          have hdd : Hid (decide (¬ cv < 0) = false) := decide_eq_false (by omega)
          clear hcv
          go_quiet (fail)
          go_wp2_with fail
          go_meet
          exact ⟨by rw [hdd.out], below_of_drewN (Below.refl _ _) _⟩
        · obtain ⟨m, rfl⟩ : ∃ m, n = m + 1 := ⟨n - 1, by omega⟩
          have hmE : m < Es.length := by have := hn.out; omega
          have d0 := (HE.out.below B2.out).at0 m hmE
          have okm := hide ((HE.out.below B2.out).ok m hmE)
          have hah : ahd (kvs Es) = Es[m].ks := by
            unfold ahd
            rw [kvs_len, hn.out, Nat.add_sub_cancel, kvs_ky Es m hmE]
          rw [hah] at hcv
          obtain rfl := HA.out (by omega)
          unfold Ent.kv at d0
          simp only [Nat.zero_add] at d0
          generalize Es[m] = em at *
          have HCM : Hid (∀ q, Calls Try.prog 49 #[.slice em.ka em.ks.length em.kc, .slice en.ka nk en.kc] (w2.drewN q) fun e w' => e = .returned (.int .i64 cv) ∧ ∃ m, w' = w2.drewN m) := fun q => by
            rw [hcv]
            refine (rcompare_any em.ka en.ka em.ks.length em.kc nk en.kc em.ks en.ks (w2.drewN q) (by have := okm.out.zk; unfold maxLen; omega) (by unfold maxLen; omega) rfl hnk (show Row w2 .u8 _ _ from okm.out.k) (show Row w2 .u8 _ _ from OK.out.k.below2 B2.out)).mono ?_
            rintro e w' ⟨rfl, m, rfl⟩
            exact ⟨rfl, _, drewN_drewN w2 q m⟩
          have hw1' : IntKind.i64.wrap ((m : Int) + 1 - 1) = (m : Int) := by rw [IntKind.wrap_i64]; omega
          have hw2 : IntKind.i64.wrap (((m + 1 : Nat) : Int) - 1) = (m : Int) := by rw [IntKind.wrap_i64]; omega
          have hw3 : IntKind.i64.wrap (m : Int) = (m : Int) := by rw [IntKind.wrap_i64]; omega
          have i2 : (m : Int) < (m : Int) + 1 := by omega
          have i3 : (0 : Int) < (m : Int) + 1 := by omega
          have i4 : (0 : Int) ≤ (m : Int) := by omega
          clear hcv hah
          go_quiet ((go_at_call 49; with_reducible exact HCM.out _))
          go_wp2_with fail
          go_meet
          exact ⟨rfl, below_of_drewN (Below.refl _ _) _⟩
      case rest =>
      obtain ⟨rfl, HB4⟩ := hcut
      rename World => w4
      have B4 := hide (B2.out.trans (HB4.out.mono B2.out.size))
      have z24 := HB4.out.size
      replace y0 := (HB4.out.cell (p := ⟨W.heap.size, 0, none⟩) (show W.heap.size < w2.heap.size by omega)).trans y0
      replace y1 := (HB4.out.cell (p := ⟨W.heap.size, 1, none⟩) (show W.heap.size < w2.heap.size by omega)).trans y1
      replace c0 := (HB4.out.cell (p := ⟨gy, k, none⟩) (show gy < w2.heap.size by omega)).trans c0
      by_cases hcn : cv < 0
      · have hA : ad = 0 := by rw [HADD2.out, if_pos hcn]
        subst hA
        rw [decide_eq_false (by omega)]
        obtain rfl : Es' = Es ++ [en] := by rw [HES.out, if_pos rfl]
        have hn64 : n < 64 := by omega
        have HGOOD : Hid (Good (kvs (Es ++ [en]))) := by
          have h1 := H.out.g.snoc en.ks en.vs (by rw [kvs_len, hn.out]; omega) (by rw [hnk]; omega) (by rw [hnv]; omega) OK.out.k8 OK.out.v8 (fun _ => by rw [← hcv]; exact hcn)
          show Good _
          simpa [kvs] using h1
        have hb5 : Below w4.heap.size w4 (w4.alloc (.cells #[.slice en.ka nk en.kc, .slice en.va nv en.vc] 25)).drew := ((Below.refl _ _).alloc (Nat.le_refl _) _).drew
        have HOWN : Hid ((w4.alloc (.cells #[.slice en.ka nk en.kc, .slice en.va nv en.vc] 25)).drew.ownsRow N 25 2 (.slice a n c) n (cellsOf Es)) := by
          have h1 := own_upd2 H.out.o (Upd.of_below (B4.out.trans (hb5.mono B4.out.size)) Noth) (fun _ _ e => e)
          rw [hn.out] at h1
          exact h1
        have HZ5 : Hid (N ≤ (w4.alloc (.cells #[.slice en.ka nk en.kc, .slice en.va nv en.vc] 25)).drew.heap.size) := by have := B4.out.size; have := hb5.size; show N ≤ _; omega
        have HNEW := hide (two_new w4 (.slice en.ka nk en.kc) (.slice en.va nv en.vc) 25)
        have HADDED := hide (fun (w6 : World) (g6 c6 : Nat) o6 gr6 k6 => H.out.added (w6 := w6) B4.out en OK.out hsep HGOOD.out hn.out (.cells #[.slice en.ka nk en.kc, .slice en.va nv en.vc] 25) g6 c6 o6 gr6 k6)
        have HKEEP : Hid (∀ w6 : World, (w4.alloc (.cells #[.slice en.ka nk en.kc, .slice en.va nv en.vc] 25)).drew.grownBy w6 (Value.slice a n c).ownBlock → w6.cell? ⟨gy, k, none⟩ = some (.slice a n c) ∧ w6.frozen? ⟨gy, k, none⟩ = false) := fun w6 gr => by
          have u : Upd (fun i => (Value.slice a n c).ownBlock = some i) (w4.alloc (.cells #[.slice en.ka nk en.kc, .slice en.va nv en.vc] 25)).drew w6 := Upd.of_grown gr (fun k hk _ => hk)
          have h1 := H.out
          rw [hn.out] at h1
          have h2 := u.heap (((B4.out.trans (hb5.mono B4.out.size)).block gy hgy).trans h1.blk) (fun e => h1.dy gy e rfl)
          exact ⟨by rw [cell_of_row _ _ _ _ _ _ h2]; exact h1.at', frozen_blk h2 k⟩
        have c5 : (w4.alloc (.cells #[.slice en.ka nk en.kc, .slice en.va nv en.vc] 25)).cell? ⟨gy, k, none⟩ = some (.slice a n c) := (((Below.refl w4.heap.size w4).alloc (Nat.le_refl _) _).cell (p := ⟨gy, k, none⟩) (show gy < w4.heap.size by omega)).trans c0
        clear hb5
        obtain ⟨iE, hiE, hzE0, hzE1, hzE2⟩ := info_parts infoE
        go_upto_region 8 with fail
        go_region_law (first
          | (refine step_append_lies _ rfl (.tmp 46) (.tmp 48) 26 rfl N 25 iE (.agg #[.slice none 0 0, .slice none 0 0]) 2 48 Try.underlying26 hiE hzE0 hzE1 hzE2 rfl (by decide) (.slice a n c) n (cellsOf Es) (by simp [Act.eval]) HOWN.out ⟨w4.heap.size, 0, none⟩ 1 1 [.slice en.ka nk en.kc, .slice en.va nv en.vc] (by simp [Act.eval]) rfl HNEW.out (by intro u hu; simp at hu; rcases hu with rfl | rfl <;> rfl) (by omega) (by unfold maxLen; omega) (by omega) HZ5.out _ rfl ?_; intro g6 c6 w6 o6 gr6 k6 lt6; have e6 := (HKEEP.out w6 gr6).1; have f6 := (HKEEP.out w6 gr6).2; have O6 := hide o6; have GR6 := hide gr6; have K6 := hide k6; clear o6 gr6 k6 lt6)
          | fail)
        all_goals
          have HF : Hid (RAddPost W N gy k cs (.slice a Es.length c) (Es ++ [en]) 0 (.returned (.int .i64 0)) (w6.setCell ⟨gy, k, none⟩ (.slice (some ⟨g6, 0, none⟩) (n + 1) c6))) := by
            have e1 : [Value.slice en.ka nk en.kc, Value.slice en.va nv en.vc] = [en.kv, en.vv] := by unfold Ent.kv Ent.vv; rw [hnk, hnv]
            have o6 := O6.out
            rw [e1] at o6
            refine HADDED.out w6 g6 c6 o6 ?_ ?_
            · rw [hn.out]; exact grown_ofDrew GR6.out
            · rw [hn.out]; exact K6.out.imp id (fun e => by rw [e]; exact Nat.le_refl _)
          clear e6 f6
          go_wp2_with fail
          go_ret
          exact HF.out
      · have hA : ad = 51 := by rw [HADD2.out, if_neg hcn]
        subst hA
        rw [decide_eq_true hcn]
        have HF := hide (HSAME.out w4 B4.out 51)
        obtain rfl : Es' = Es := by rw [HES.out, if_neg (by decide)]
        go_wp2_with fail
        go_ret
        exact HF.out
  · have hne : (ck != 0) = true := by simp [hck]
    have hA : ad = ck := by rw [HADD.out, if_pos hck]
    subst hA
    have HF := hide (HSAME.out w2 B2.out ad)
    obtain rfl : Es' = Es := by rw [HES.out, if_neg hck]
    go_wp2_with fail
    go_ret
    exact HF.out

end Go.Proofs.Ytjnldmbjeiejdaa

namespace Go.Proofs.Ytjnldmbjeiejdaa
open Go.RowKit

/-- The state, seen from builder k: xs: the pointers at gx; cs: the document's lists at gy. -/
structure BV (w W : World) (gx gy k : Nat) (xs cs : Array Value) (g : Nat) (M : Nat → Prop) (l : List KV) (v : Value) (E : List Ent) (g' : Nat) (M' : Nat → Prop) (l' : List KV) (v' : Value) (E' : List Ent) : Prop where
  k1 : k ≤ 1
  x : W.heap[gx]? = some (.cells xs 54 (0, 0))
  xk : xs[k]? = some (.pointer (some ⟨g, 0, none⟩))
  xk' : xs[1 - k]? = some (.pointer (some ⟨g', 0, none⟩))
  b : BdAt W w.heap.size M g l
  b' : BdAt W w.heap.size M' g' l'
  r : RbR W w.heap.size gy k cs v E
  r' : RbR W w.heap.size gy (1 - k) cs v' E'
  dM : ∀ i, M i → ¬ M' i
  dx : ¬ M gx ∧ ¬ M' gx ∧ gx ≠ gy ∧ v.ownBlock ≠ some gx ∧ v'.ownBlock ≠ some gx
  dy : ¬ M gy ∧ ¬ M' gy
  dv : ∀ i, v.ownBlock = some i → ¬ M i ∧ ¬ M' i ∧ v'.ownBlock ≠ some i
  dv' : ∀ i, v'.ownBlock = some i → ¬ M i ∧ ¬ M' i
  xN : w.heap.size ≤ gx
  bel : Below w.heap.size w W
section
variable {w W W' : World} {gx gy k : Nat} {xs cs : Array Value} {g : Nat} {M : Nat → Prop} {l : List KV} {v : Value} {E : List Ent} {g' : Nat} {M' : Nat → Prop} {l' : List KV} {v' : Value} {E' : List Ent}
/-- Seen from the other one. -/
theorem BV.swap (h : BV w W gx gy k xs cs g M l v E g' M' l' v' E') : BV w W gx gy (1 - k) xs cs g' M' l' v' E' g M l v E := by
  have hk := h.k1
  have e : 1 - (1 - k) = k := by omega
  exact ⟨by omega, h.x, h.xk', by rw [e]; exact h.xk, h.b', h.b, h.r', by rw [e]; exact h.r, fun i h1 h2 => h.dM i h2 h1, ⟨h.dx.2.1, h.dx.1, h.dx.2.2.1, h.dx.2.2.2.2, h.dx.2.2.2.1⟩, ⟨h.dy.2, h.dy.1⟩, fun i hi => ⟨(h.dv' i hi).2, (h.dv' i hi).1, fun e => (h.dv i e).2.2 hi⟩, fun i hi => ⟨(h.dv i hi).2.1, (h.dv i hi).1⟩, h.xN, h.bel⟩
/-- Blocks that are none of theirs. -/
def BV.Off (_ : BV w W gx gy k xs cs g M l v E g' M' l' v' E') (i : Nat) : Prop := w.heap.size ≤ i ∧ ¬ M i ∧ ¬ M' i ∧ i ≠ gx ∧ i ≠ gy ∧ v.ownBlock ≠ some i ∧ v'.ownBlock ≠ some i
theorem BV.young (h : BV w W gx gy k xs cs g M l v E g' M' l' v' E') (i : Nat) (hi : W.heap.size ≤ i) : h.Off i := by
  have hx := lt_of_block h.x
  have hy := lt_of_block h.r.blk
  have hz := h.bel.size
  exact ⟨by omega, fun e => by have := (h.b.lt i e).2; omega, fun e => by have := (h.b'.lt i e).2; omega, by omega, by omega, fun e => by have := (h.r.o.lt i e).2; omega, fun e => by have := (h.r'.o.lt i e).2; omega⟩
theorem BV.upd {S : Nat → Prop} (h : BV w W gx gy k xs cs g M l v E g' M' l' v' E') (hu : Upd S W W') (hs : ∀ i, S i → h.Off i) : BV w W' gx gy k xs cs g M l v E g' M' l' v' E' :=
  ⟨h.k1, hu.heap h.x (fun e => (hs _ e).2.2.2.1 rfl), h.xk, h.xk', h.b.upd hu (fun i hi e => (hs i e).2.1 hi), h.b'.upd hu (fun i hi e => (hs i e).2.2.1 hi),
    h.r.upd hu (fun e => (hs _ e).2.2.2.2.1 rfl) (fun b hb e => (hs b e).2.2.2.2.2.1 hb) (fun b hb e => by have := (hs b e).1; omega),
    h.r'.upd hu (fun e => (hs _ e).2.2.2.2.1 rfl) (fun b hb e => (hs b e).2.2.2.2.2.2 hb) (fun b hb e => by have := (hs b e).1; omega),
    h.dM, h.dx, h.dy, h.dv, h.dv', h.xN, h.bel.trans (hu.below h.bel.size (fun i hi e => by have := (hs i e).1; omega))⟩
theorem BV.below (h : BV w W gx gy k xs cs g M l v E g' M' l' v' E') (hb : Below W.heap.size W W') : BV w W' gx gy k xs cs g M l v E g' M' l' v' E' := h.upd (Upd.of_below hb Noth) (fun _ e => e.elim)
/-- The program's builder has turned. -/
theorem BV.prog {M1 : Nat → Prop} {l1 : List KV} (h : BV w W gx gy k xs cs g M l v E g' M' l' v' E') (hb : BdAt W' w.heap.size M1 g l1) (hu : Upd M W W') (hM : ∀ i, M1 i → M i ∨ W.heap.size ≤ i) : BV w W' gx gy k xs cs g M1 l1 v E g' M' l' v' E' := by
  have hn : ∀ i, w.heap.size ≤ i ∨ ¬ M i := fun i => by
    by_cases e : M i
    · exact .inl (h.b.lt i e).1
    · exact .inr e
  have hlow : ∀ i, i < w.heap.size → ¬ M i := fun i hi e => by have := (h.b.lt i e).1; omega
  have hx := lt_of_block h.x
  have hy := lt_of_block h.r.blk
  refine ⟨h.k1, hu.heap h.x h.dx.1, h.xk, h.xk', hb, h.b'.upd hu (fun i hi e => h.dM i e hi), h.r.upd hu h.dy.1 (fun b hb => (h.dv b hb).1) hlow, h.r'.upd hu h.dy.1 (fun b hb => (h.dv' b hb).1) hlow, fun i h1 h2 => ?_, ⟨fun e => ?_, h.dx.2⟩, ⟨fun e => ?_, h.dy.2⟩, fun i hi => ⟨fun e => ?_, (h.dv i hi).2⟩, fun i hi => ⟨fun e => ?_, (h.dv' i hi).2⟩, h.xN, h.bel.trans (hu.below h.bel.size hlow)⟩
  · rcases hM i h1 with h3 | h3
    · exact h.dM i h3 h2
    · have := (h.b'.lt i h2).2; omega
  · rcases hM _ e with h3 | h3
    · exact h.dx.1 h3
    · omega
  · rcases hM _ e with h3 | h3
    · exact h.dy.1 h3
    · omega
  · rcases hM _ e with h3 | h3
    · exact (h.dv i hi).1 h3
    · have := (h.r.o.lt i hi).2; omega
  · rcases hM _ e with h3 | h3
    · exact (h.dv' i hi).1 h3
    · have := (h.r'.o.lt i hi).2; omega
/-- The document's builder has turned. -/
theorem BV.doc {cs1 : Array Value} {v1 : Value} {E1 : List Ent} (h : BV w W gx gy k xs cs g M l v E g' M' l' v' E') (hr : RbR W' w.heap.size gy k cs1 v1 E1) (hu : Upd (fun i => i = gy ∨ v.ownBlock = some i) W W') (hv : ∀ b, v1.ownBlock = some b → v.ownBlock = some b ∨ W.heap.size ≤ b) (hcs : ∀ j, j ≠ k → cs1[j]? = cs[j]?) : BV w W' gx gy k xs cs1 g M l v1 E1 g' M' l' v' E' := by
  have hk := h.k1
  have hx := lt_of_block h.x
  have hlow : ∀ i, i < w.heap.size → ¬ (i = gy ∨ v.ownBlock = some i) := fun i hi e => by
    rcases e with e | e
    · have := h.r.gN; omega
    · have := (h.r.o.lt i e).1; omega
  have hM : ∀ i, M i → ¬ (i = gy ∨ v.ownBlock = some i) := fun i hi e => by
    rcases e with e | e
    · rw [e] at hi; exact h.dy.1 hi
    · exact (h.dv i e).1 hi
  have hM' : ∀ i, M' i → ¬ (i = gy ∨ v.ownBlock = some i) := fun i hi e => by
    rcases e with e | e
    · rw [e] at hi; exact h.dy.2 hi
    · exact (h.dv i e).2.1 hi
  have hv' : ∀ b, v'.ownBlock = some b → ¬ (b = gy ∨ v.ownBlock = some b) := fun b hb e => by
    rcases e with e | e
    · exact h.r'.dy b hb e
    · exact (h.dv b e).2.2 hb
  refine ⟨h.k1, hu.heap h.x (fun e => e.elim h.dx.2.2.1 h.dx.2.2.2.1), h.xk, h.xk', h.b.upd hu hM, h.b'.upd hu hM', hr, ⟨hr.blk, by rw [hcs _ (by omega)]; exact h.r'.at', own_upd2 h.r'.o hu hv', fun i hi => (h.r'.ok i hi).upd hu (fun x hx h0 => hlow _ (h.r'.sep i hi x (.inl ⟨hx, h0⟩))) (fun x hx h0 => hlow _ (h.r'.sep i hi x (.inr ⟨hx, h0⟩))), h.r'.sep, h.r'.g, h.r'.dy, h.r'.gN⟩, h.dM, ⟨h.dx.1, h.dx.2.1, h.dx.2.2.1, fun e => ?_, h.dx.2.2.2.2⟩, h.dy, fun i hi => ?_, h.dv', h.xN, h.bel.trans (hu.below h.bel.size hlow)⟩
  · rcases hv _ e with h3 | h3
    · exact h.dx.2.2.2.1 h3
    · omega
  · rcases hv i hi with h3 | h3
    · exact h.dv i h3
    · have q := h.young i h3
      exact ⟨q.2.1, q.2.2.1, q.2.2.2.2.2.2⟩
/-- The document's list is laid down. -/
theorem BV.clear (h : BV w W gx gy k xs cs g M l v E g' M' l' v' E') : BV w (W.setCell ⟨gy, k, none⟩ (.slice none 0 0)) gx gy k xs (cs.setIfInBounds k (.slice none 0 0)) g M l (.slice none 0 0) [] g' M' l' v' E' := by
  have hks : k < cs.size := by
    have h1 := h.r.at'
    rcases Nat.lt_or_ge k cs.size with h2 | h2
    · exact h2
    · rw [Array.getElem?_eq_none h2] at h1; cases h1
  refine h.doc ⟨block_setCell h.r.blk k _, by simp [hks], World.ownsRow_nil _ _ _ _, fun i h => absurd h (Nat.not_lt_zero i), fun i h => absurd h (Nat.not_lt_zero i), Good.nil, (fun b h => by cases h), h.r.gN⟩ ((set_upd W gy k _).mono (fun i _ e => .inl e)) (fun b hb => by cases hb) (fun j hj => ?_)
  rw [Array.getElem?_setIfInBounds]
  simp [Ne.symm hj]
end

/-- In the beginning. -/
theorem bv_new (w w1 : World) (hb : Below w.heap.size w w1) :
    BV w ((((w1.alloc (.cells #[.int .i64 0, .slice none 0 0, .slice none 0 0, .slice none 0 0] 87)).alloc (.cells #[.int .i64 0, .slice none 0 0, .slice none 0 0, .slice none 0 0] 87)).alloc (.cells #[.pointer (some ⟨w1.heap.size, 0, none⟩), .pointer (some ⟨w1.heap.size + 1, 0, none⟩)] 54)).alloc (.cells #[.slice none 0 0, .slice none 0 0] 59))
      (w1.heap.size + 2) (w1.heap.size + 3) 0 #[.pointer (some ⟨w1.heap.size, 0, none⟩), .pointer (some ⟨w1.heap.size + 1, 0, none⟩)] #[.slice none 0 0, .slice none 0 0] w1.heap.size (fun i => i = w1.heap.size) [] (.slice none 0 0) [] (w1.heap.size + 1) (fun i => i = w1.heap.size + 1) [] (.slice none 0 0) [] := by
  have hz := hb.size
  obtain ⟨w2, hw2⟩ : ∃ w2, w2 = w1.alloc (.cells #[.int .i64 0, .slice none 0 0, .slice none 0 0, .slice none 0 0] 87) := ⟨_, rfl⟩
  have z2 : w2.heap.size = w1.heap.size + 1 := by rw [hw2]; simp
  obtain ⟨w3, hw3⟩ : ∃ w3, w3 = w2.alloc (.cells #[.int .i64 0, .slice none 0 0, .slice none 0 0, .slice none 0 0] 87) := ⟨_, rfl⟩
  have z3 : w3.heap.size = w1.heap.size + 2 := by rw [hw3]; simp; omega
  obtain ⟨w4, hw4⟩ : ∃ w4, w4 = w3.alloc (.cells #[.pointer (some ⟨w1.heap.size, 0, none⟩), .pointer (some ⟨w1.heap.size + 1, 0, none⟩)] 54) := ⟨_, rfl⟩
  have z4 : w4.heap.size = w1.heap.size + 3 := by rw [hw4]; simp; omega
  rw [← hw2, ← hw3, ← hw4]
  have b0 : BdAt w2 w.heap.size (fun i => i = w1.heap.size) w1.heap.size [] := by rw [hw2]; exact ⟨Good.nil, _, _, _, BdR.fresh w1 _ hz, fun i => (bdM_nil _ i).symm⟩
  have b1 : BdAt w3 w.heap.size (fun i => i = w1.heap.size + 1) (w1.heap.size + 1) [] := by
    have := BdR.fresh w2 w.heap.size (by omega)
    rw [z2, ← hw3] at this
    exact ⟨Good.nil, _, _, _, this, fun i => (bdM_nil _ i).symm⟩
  have u12 : Upd Noth w1 w2 := by rw [hw2]; exact (Upd.refl _ _).alloc _
  have u34 : Upd Noth w3 w4 := by rw [hw4]; exact (Upd.refl _ _).alloc _
  have u23 : Upd Noth w2 w3 := by rw [hw3]; exact (Upd.refl _ _).alloc _
  have u45 : Upd Noth w4 (w4.alloc (.cells #[.slice none 0 0, .slice none 0 0] 59)) := (Upd.refl _ _).alloc _
  have hx : w4.heap[w1.heap.size + 2]? = some (.cells #[.pointer (some ⟨w1.heap.size, 0, none⟩), .pointer (some ⟨w1.heap.size + 1, 0, none⟩)] 54 (0, 0)) := by rw [hw4, ← z3]; exact heap_alloc_new w3 _
  have hy : (w4.alloc (.cells #[.slice none 0 0, .slice none 0 0] 59)).heap[w1.heap.size + 3]? = some (.cells #[.slice none 0 0, .slice none 0 0] 59 (0, 0)) := by rw [← z4]; exact heap_alloc_new w4 _
  have hr : ∀ k, k ≤ 1 → RbR (w4.alloc (.cells #[.slice none 0 0, .slice none 0 0] 59)) w.heap.size (w1.heap.size + 3) k #[.slice none 0 0, .slice none 0 0] (.slice none 0 0) [] := fun k hk => by
    refine ⟨hy, ?_, World.ownsRow_nil _ _ _ _, fun i h => absurd h (Nat.not_lt_zero i), fun i h => absurd h (Nat.not_lt_zero i), Good.nil, (fun b h => by cases h), by omega⟩
    have : k = 0 ∨ k = 1 := by omega
    rcases this with rfl | rfl <;> rfl
  exact ⟨by omega, u45.heap hx (fun e => e), rfl, rfl, (((b0.upd u23 (fun _ _ e => e)).upd u34 (fun _ _ e => e)).upd u45 (fun _ _ e => e)), ((b1.upd u34 (fun _ _ e => e)).upd u45 (fun _ _ e => e)), hr 0 (by omega), hr 1 (by omega), (fun i h1 h2 => by omega), ⟨by omega, by omega, by omega, (fun e => by cases e), (fun e => by cases e)⟩, ⟨by omega, by omega⟩, (fun i h => by cases h), (fun i h => by cases h), by omega, hb.trans ((((u12.trans u23).trans u34).trans u45).toBelow.mono hz)⟩

end Go.Proofs.Ytjnldmbjeiejdaa

namespace Go.Proofs.Ytjnldmbjeiejdaa
open Go.RowKit

theorem below_drew1 (w : World) : Below w.heap.size w w.drew := ⟨rfl, rfl, rfl, Nat.le_refl _, fun _ _ => rfl⟩

section
variable {w w1 w2 w3 W W' : World} {gx gy k : Nat} {xs cs : Array Value} {g : Nat} {M : Nat → Prop} {l : List KV} {v : Value} {E : List Ent} {g' : Nat} {M' : Nat → Prop} {l' : List KV} {v' : Value} {E' : List Ent} {en : Ent} {gk gv gm nk nv : Nat}

theorem cp1_cells {N ga : Nat} (h : ElOk W N ga [cpE en gk gv, mkE gm]) (hnk : en.ks.length = nk) (hnv : en.vs.length = nv) : W.cell? ⟨ga, 0, none⟩ = some (.slice (some ⟨gk, 0, none⟩) nk (nk + 1)) ∧ W.cell? ⟨ga, 1, none⟩ = some (.slice (some ⟨gv, 0, none⟩) nv (nv + 1)) := by
  obtain ⟨cur, q1, q2, q3⟩ := h.eb
  have q4 := q3 0 (by simp)
  subst hnk hnv
  exact ⟨by rw [cell_of_row _ _ _ _ _ _ q1]; exact q4.1, by rw [cell_of_row _ _ _ _ _ _ q1]; exact q4.2⟩

theorem cp1_young {N ga : Nat} (hel : ElOk W N ga [cpE en gk gv, mkE gm]) : N ≤ gk ∧ N ≤ gv := by
  have hok := hel.ok 0 (by simp)
  have hyg : ∀ {v : Value} {zs : List Int}, OwnB W N 5 v zs → ∀ i, v.ownBlock = some i → N ≤ i := fun h i hi => by
    obtain ⟨_, _, _, _, _, q⟩ := h.sliceN rfl
    exact (q i hi).1
  exact ⟨hyg hok.1 gk (by simp [cpE, Ent.kv, Value.ownBlock]), hyg hok.2 gv (by simp [cpE, Ent.vv, Value.ownBlock])⟩
theorem one_ens {b : Nat} {T : TypeId} (h : W.heap[b]? = some (.cells #[.slice en.ka nk en.kc, .slice en.va nv en.vc] T (0, 0))) (hnk : en.ks.length = nk) (hnv : en.vs.length = nv) (ok : en.Ok W) : Ens W b 0 [en] := by
  subst hnk hnv
  refine ⟨fun i hi => ?_, fun i hi => ?_, fun i hi => ?_⟩
  all_goals obtain rfl : i = 0 := by simp at hi; omega
  · rw [cell_of_row _ _ _ _ _ _ h]; rfl
  · rw [cell_of_row _ _ _ _ _ _ h]; rfl
  · exact ok

theorem badd1 (V1 : BV w w1 gx gy k xs cs g M l v E g' M' l' v' E') (hel : ElOk w2 w1.heap.size w1.heap.size [cpE en gk gv, mkE gm]) (b2 : Below w1.heap.size w1 w2) (ok : en.Ok w1) (hnk : en.ks.length = nk) (hnv : en.vs.length = nv) :
    Calls Try.prog 27 #[.pointer (some ⟨g, 0, none⟩), .agg #[.slice (some ⟨gk, 0, none⟩) nk (nk + 1), .slice (some ⟨gv, 0, none⟩) nv (nv + 1)]] w2.drew fun e w3 => e = .returned (.int .i64 (addE l en.ks en.vs)) ∧ ∃ M1, BV w w3 gx gy k xs cs g M1 (addL l en.ks en.vs) v E g' M' l' v' E' ∧ Upd M w2 w3 ∧ ∀ i, M1 i → M i ∨ w2.heap.size ≤ i := by
  have V2 := (V1.below b2).below (below_drew1 w2)
  have hok := hel.ok 0 (by simp)
  have hyg : ∀ {v : Value} {zs : List Int}, OwnB w2 w1.heap.size 5 v zs → ∀ i, v.ownBlock = some i → w1.heap.size ≤ i := fun h i hi => by
    obtain ⟨_, _, _, _, _, q⟩ := h.sliceN rfl
    exact (q i hi).1
  subst hnk hnv
  refine (badd_any (e := cpE en gk gv) V2.b ((cp1_ok hel ok).below (below_drew1 w2)) ?_ ?_).mono ?_
  · intro x hx h0
    cases hx
    exact (V1.young gk (hyg hok.1 gk (by simp [cpE, Ent.kv, Value.ownBlock]))).2.1
  · intro x hx h0
    cases hx
    exact (V1.young gv (hyg hok.2 gv (by simp [cpE, Ent.vv, Value.ownBlock]))).2.1
  · rintro e w3 ⟨rfl, M1, hb, hu, hM⟩
    exact ⟨rfl, M1, V2.prog hb hu hM, (Upd.of_below (below_drew1 w2) M).trans hu, hM⟩

theorem radd1 (V6 : BV w W gx gy k xs cs g M (addL (kvs E) en.ks en.vs) v E g' M' l' v' E') (ok : en.Ok W) (hsep : ∀ x, (en.ka = some x ∧ 0 < en.ks.length) ∨ (en.va = some x ∧ 0 < en.vs.length) → x.block < w.heap.size) (hnk : en.ks.length = nk) (hnv : en.vs.length = nv) :
    Calls Try.prog 28 #[.pointer (some ⟨gy, k, none⟩), .agg #[.slice en.ka nk en.kc, .slice en.va nv en.vc]] W.drew fun e w7 => e = .returned (.int .i64 (addE (kvs E) en.ks en.vs)) ∧ ∃ cs1 v1 E1, BV w w7 gx gy k xs cs1 g M (kvs E1) v1 E1 g' M' l' v' E' := by
  have V7 := V6.below (below_drew1 W)
  subst hnk hnv
  refine (radd_any V7.r en (ok.below (below_drew1 W)) hsep V7.bel.size (if addE (kvs E) en.ks en.vs = 0 then E ++ [en] else E) _ rfl rfl).mono ?_
  rintro e w7 ⟨rfl, cs1, v1, hr, hu, hv, _, hcs⟩
  refine ⟨rfl, cs1, v1, (if addE (kvs E) en.ks en.vs = 0 then E ++ [en] else E), ?_⟩
  have h8 := V7.doc hr hu hv hcs
  have hk : kvs (if addE (kvs E) en.ks en.vs = 0 then E ++ [en] else E) = addL (kvs E) en.ks en.vs := by
    unfold addL
    split <;> simp [kvs]
  rw [hk]
  exact h8

end

end Go.Proofs.Ytjnldmbjeiejdaa
