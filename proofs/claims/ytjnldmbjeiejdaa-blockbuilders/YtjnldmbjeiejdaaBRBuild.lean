/- The document's Build. -/
import Derived.Test.YtjnldmbjeiejdaaBBuild
import Derived.Test.YtjnldmbjeiejdaaBApp
import Derived.Test.YtjnldmbjeiejdaaKRBytes
namespace Go.Proofs.Ytjnldmbjeiejdaa
open Go.RowKit

/-- Behind which key the entry i is written. -/
theorem rprev_any (a : Option Addr) (b o l c i : Nat) (L : List Ent) (w : World) (hl : L.length = l) (hm : l ≤ 140737488351232) (ha : 0 < l → a = some ⟨b, o, none⟩) (hE : Ens w b o L) (hi : i ≤ l) :
    ∃ pa pc, Row w .u8 pa (pvOf (kvs L) i) ∧ (pa = none → (pvOf (kvs L) i).length = 0 ∧ pc = 0) ∧ (pvOf (kvs L) i).length ≤ pc ∧ (∀ x, pa = some x → i % 8 ≠ 0) ∧
      ∀ W, Below w.heap.size w W → Calls Try.prog 45 #[.slice a l c, .int .i64 (i : Int)] W fun e w' => e = .returned (.slice pa (pvOf (kvs L) i).length pc) ∧ w' = W := by
  have h8 : ((i : Int) % 8 == 0) = decide (i % 8 = 0) := by
    by_cases h : i % 8 = 0
    · rw [decide_eq_true h]; simp; omega
    · rw [decide_eq_false h]; simp; omega
  by_cases h : i % 8 = 0
  · have hp : pvOf (kvs L) i = [] := by unfold pvOf; rw [if_pos h]
    rw [hp]
    refine ⟨none, 0, row_nil _ _ _, fun _ => ⟨rfl, rfl⟩, Nat.le_refl _, (fun x h => by cases h), fun W _ => ?_⟩
    rw [decide_eq_true h] at h8
    have h9 : (i : Int) % 8 = 0 := by omega
    clear hE ha
    go_enter Try.func45, Try.ntmps45
    go_wp2
    go_ret
    exact ⟨rfl, rfl⟩
  · have hlt : i - 1 < L.length := by omega
    have hp : pvOf (kvs L) i = (L[i - 1]'hlt).ks := by unfold pvOf; rw [if_neg h, kvs_ky L _ hlt]
    rw [hp]
    have ok := hE.ok (i - 1) hlt
    refine ⟨(L[i - 1]'hlt).ka, (L[i - 1]'hlt).kc, ok.k, ok.nk, ok.lk, fun _ _ => h, fun W hB => ?_⟩
    rw [decide_eq_false h] at h8
    have h9 : ¬ (i : Int) % 8 = 0 := by omega
    have c0 := (hE.below hB).at0 (i - 1) hlt
    unfold Ent.kv at c0
    obtain rfl := ha (by omega)
    obtain ⟨j, rfl⟩ : ∃ j, i = j + 1 := ⟨i - 1, by omega⟩
    simp only [Nat.add_sub_cancel] at c0 ⊢
    have hw2 : IntKind.i64.wrap (((j + 1 : Nat) : Int) - 1) = (j : Int) := by rw [IntKind.wrap_i64]; omega
    have hw1 : IntKind.i64.wrap ((j : Int) + 1 - 1) = (j : Int) := by rw [IntKind.wrap_i64]; omega
    have hw3 : IntKind.i64.wrap (j : Int) = (j : Int) := by rw [IntKind.wrap_i64]; omega
    have i1 : (j : Int) < (l : Int) := by omega
    have i2 : (0 : Int) ≤ (j : Int) := by omega
    generalize (L[j]'hlt).ka = ka at *
    generalize (L[j]'hlt).ks.length = kl at *
    generalize (L[j]'hlt).kc = kc at *
    clear hE ha hp ok h
    go_enter Try.func45, Try.ntmps45
    go_wp2
    go_ret
    exact ⟨rfl, rfl⟩

def RBPost (w : World) (L : List Ent) (e : Ending) (w' : World) : Prop :=
  ∃ a c n r, e = .returned (.tuple #[.slice a (bldL L r).length c, .int .i64 r, .int .i64 (n : Nat)]) ∧ bldE L n r ∧ Row w' .u8 a (bldL L r) ∧ (a = none → (bldL L r).length = 0 ∧ c = 0) ∧ (∀ x, a = some x → w.heap.size ≤ x.block) ∧ Below w.heap.size w w'
theorem pv_take (L : List Ent) (k : Nat) (h : k < L.length) : bod (kvs L) (k + 1) = bod (kvs L) k ++ encP (pvOf (kvs L) k) L[k].ks L[k].vs := by
  rw [bod, kvs_ky L k h, kvs_vl L k h]

/-- Two rows of one's own, apart. -/
structure Two (W : World) (N : Nat) (v1 v2 : Value) (z1 z2 : List Int) : Prop where
  o1 : W.ownsRow N 5 1 v1 z1.length (z1.map (Value.int .u8))
  o2 : W.ownsRow N 5 1 v2 z2.length (z2.map (Value.int .u8))
  d : ∀ i, v1.ownBlock = some i → v2.ownBlock ≠ some i
theorem Two.below {W W' : World} {N : Nat} {v1 v2 : Value} {z1 z2 : List Int} (h : Two W N v1 v2 z1 z2) (hb : Below W.heap.size W W') : Two W' N v1 v2 z1 z2 :=
  ⟨owns_below h.o1 hb, owns_below h.o2 hb, h.d⟩
theorem Two.set1 {W W' : World} {N : Nat} {v1 v2 v : Value} {z1 z2 z : List Int} (h : Two W N v1 v2 z1 z2) (ho : W'.ownsRow N 5 1 v z.length (z.map (Value.int .u8))) (hg : W.grownBy W' v1.ownBlock) (hk : ∀ k, v.ownBlock = some k → v1.ownBlock = some k ∨ W.heap.size ≤ k) : Two W' N v v2 z z2 :=
  ⟨ho, owns_upd h.o2 (Upd.of_grown (S := fun i => v1.ownBlock = some i) hg (fun k hk _ => hk)) (fun i hi e => h.d i e hi), fun i hi e => (hk i hi).elim (fun h1 => h.d i h1 e) (fun h1 => by have := (h.o2.lt i e).2; omega)⟩
theorem Two.set2 {W W' : World} {N : Nat} {v1 v2 v : Value} {z1 z2 z : List Int} (h : Two W N v1 v2 z1 z2) (ho : W'.ownsRow N 5 1 v z.length (z.map (Value.int .u8))) (hg : W.grownBy W' v2.ownBlock) (hk : ∀ k, v.ownBlock = some k → v2.ownBlock = some k ∨ W.heap.size ≤ k) : Two W' N v1 v z1 z :=
  ⟨owns_upd h.o1 (Upd.of_grown (S := fun i => v2.ownBlock = some i) hg (fun k hk _ => hk)) (fun i hi e => h.d i hi e), ho, fun i hi e => (hk i e).elim (fun h1 => h.d i hi h1) (fun h1 => by have := (h.o1.lt i hi).2; omega)⟩
theorem below_grown {N : Nat} {w W W' : World} {v : Value} {z : List Value} {n : Nat} (hb : Below N w W) (hN : N ≤ w.heap.size) (hg : W.grownBy W' v.ownBlock) (ho : W.ownsRow N 5 1 v n z) : Below N w W' :=
  hb.grown hg (Nat.le_trans hN hb.size) (fun k h => (ho.lt k h).1)

set_option maxRecDepth 100000 in
set_option maxHeartbeats 3200000 in
theorem rbuild_any (a : Option Addr) (b o l c : Nat) (L : List Ent) (w : World) (hl : L.length = l) (hm : l ≤ 140737488351232) (ha : 0 < l → a = some ⟨b, o, none⟩) (hE : Ens w b o L) :
    Calls Try.prog 15 #[.slice a l c] w (RBPost w L) := by
  obtain ⟨i0, hi0, hz0, hz1, hz2⟩ := info_parts infoByte'
  by_cases hc : l < 1 ∨ 64 < l
  · have HF : Hid (RBPost w L (.returned (.tuple #[.slice none 0 0, .int .i64 61, .int .i64 0])) w) := ⟨none, 0, 0, 61, rfl, by unfold bldE; rw [if_pos (by omega)]; exact ⟨rfl, rfl⟩, by unfold bldL; rw [if_neg (by decide)]; exact row_nil _ _ _, fun _ => ⟨rfl, rfl⟩, (fun x h => by cases h), Below.refl _ _⟩
    clear hE ha
    rcases hc with h1 | h1
    · have h2 : (l : Int) < 1 := by omega
      go_enter Try.func15, Try.ntmps15
      go_wp2_with fail
      go_ret3
      exact HF.out
    · have h2 : ¬ (l : Int) < 1 := by omega
      have h3 : (64 : Int) < (l : Int) := by omega
      go_enter Try.func15, Try.ntmps15
      go_wp2_with fail
      go_ret3
      exact HF.out
  · have h2 : ¬ (l : Int) < 1 := by omega
    have h3 : ¬ (64 : Int) < (l : Int) := by omega
    obtain rfl := ha (by omega)
    have HS := hide (rsorted_any (some ⟨b, o, none⟩) b o l c L w hl hm (fun _ => rfl) hE)
    have HE := hide hE
    have HBE : Hid (∀ n r, Srt (fL L) l n r → bldE L n r) := fun n r h => by unfold bldE; rw [if_neg (by omega), hl]; exact h
    clear hE ha
    go_enter Try.func15, Try.ntmps15
    go_wp2_with fail
    refine HS.out.mono ?_
    rintro e w1 ⟨n, r, rfl, hsr, hb1⟩
    have B1 := hide hb1
    by_cases hr : r = 0
    · subst hr
      have hsr' : (∀ i, i < l → fL L i = 0) ∧ n = 0 := by
        rcases hsr with ⟨h1, h2, _⟩ | ⟨h1, h2, h3, _⟩
        · exact ⟨h1, h2⟩
        · exact absurd h3.symm h2
      obtain ⟨hall, rfl⟩ := hsr'
      have HB0 := hide (HBE.out 0 0 hsr)
      have HG := hide (bldE.good HE.out HB0.out)
      have hgl := hide (kvs_len L)
      have HN := hide (rnum_any l w1 (by omega))
      have hel := (enc_len_le l (by omega)).2
      have hBK : Hid (bldL L 0 = enc l ++ bod (kvs L) l ++ tab (kvs L) l) := by show _ = _; unfold bldL blk; rw [if_pos rfl, kvs_len, hl, if_neg (by omega)]
      clear hsr hb1 hall
      go_wp2_with fail
      refine HN.out.mono ?_
      rintro e w2 ⟨v2, rfl, ho2, hb2⟩
      have hw2 : Hid (Below w.heap.size w w2) := B1.out.trans (hb2.mono B1.out.size)
      have hov : w2.ownsRow w.heap.size 5 1 v2 (enc l).length ((enc l).map (Value.int .u8)) := owns_mono ho2.owns B1.out.size
      obtain ⟨a2, c2, rfl, _⟩ := ho2.slice
      have H0 : Hid (Two w2 w.heap.size (.slice a2 (enc l).length c2) (.slice none 0 0) (enc l ++ bod (kvs L) 0) (tab (kvs L) 0)) := ⟨by rw [bod, List.append_nil]; exact hov, World.ownsRow_nil _ _ _ _, fun i _ e => by cases e⟩
      clear ho2 hb2 hov HN
      go_wp2_with fail
      go_loopw [7, 8, 9] (fun q7 q8 q9 wr => ∃ (k n7 n8 : Nat) (a7 : Option Addr) (c7 : Nat) (a8 : Option Addr) (c8 : Nat), k ≤ l ∧ q7 = .slice a7 n7 c7 ∧ q8 = .slice a8 n8 c8 ∧ q9 = .int .i64 (k : Int) ∧ Hid ((enc l ++ bod (kvs L) k).length = n7) ∧ Hid ((tab (kvs L) k).length = n8) ∧ Hid (Two wr w.heap.size (.slice a7 n7 c7) (.slice a8 n8 c8) (enc l ++ bod (kvs L) k) (tab (kvs L) k)) ∧ Hid (Below w.heap.size w wr)) (fun _ _ q _ => l - (intOf q).toNat)
      case atStart => exact ⟨0, _, 0, a2, c2, none, 0, by omega, rfl, rfl, rfl, by show _ = _; rw [bod, List.append_nil], rfl, H0, hw2⟩
      case round =>
        clear H0
        obtain ⟨k, n7, n8, a7, c7, a8, c8, hk, rfl, rfl, rfl, L7, L8, HT, HB⟩ := hrel
        have hn7 : n7 ≤ 30000 := by
          have := bod_len HG.out.1 k (by rw [kvs_len]; omega)
          have := L7.out
          rw [List.length_append] at this
          omega
        have hn8 : n8 ≤ 100 := by have := L8.out; rw [tab_len] at this; omega
        by_cases hlt : k < l
        · have hkL : k < L.length := by omega
          have i1 : (k : Int) < (l : Int) := by omega
          have h8 : ((k : Int) % 8 == 0) = decide (k % 8 = 0) := by
            by_cases h : k % 8 = 0
            · rw [decide_eq_true h]; simp; omega
            · rw [decide_eq_false h]; simp; omega
          obtain ⟨b8, hb8⟩ : ∃ b8, b8 = ((k : Int) % 8 == 0) := ⟨_, rfl⟩
          have HB8 := hide (hb8.trans h8)
          have HTAB : Hid (tab (kvs L) (k + 1) = if k % 8 = 0 then tab (kvs L) k ++ sp2 n7 else tab (kvs L) k) := by
            show _ = _
            rw [tab]
            have := L7.out
            rw [List.length_append, enc_small l (by omega), List.length_singleton] at this
            rw [this]
          obtain ⟨n9, hn9⟩ : ∃ n9, (tab (kvs L) (k + 1)).length = n9 := ⟨_, rfl⟩
          have L9 := hide hn9
          clear hn9 h8
          have e1 : IntKind.u8.wrap ((n7 : Int) % 256) = ((n7 % 256 : Nat) : Int) := by rw [IntKind.wrap_u8]; omega
          have e2 : IntKind.u8.wrap ((n7 : Int) / 256) = ((n7 / 256 % 256 : Nat) : Int) := by rw [IntKind.wrap_u8]; omega
          go_upto_if 39 with fail
          rw [← hb8]
          replace hb8 := hide hb8
          go_cut [8] (fun s8 wx => ∃ (a9 : Option Addr) (c9 : Nat), s8 = .slice a9 n9 c9 ∧ Hid (Two wx w.heap.size (.slice a7 n7 c7) (.slice a9 n9 c9) (enc l ++ bod (kvs L) k) (tab (kvs L) (k + 1))) ∧ Hid (Below w.heap.size w wx))
          case first =>
            by_cases hk8 : k % 8 = 0
            · obtain rfl : b8 = true := by rw [HB8.out, decide_eq_true hk8]
              have hb1 : Below wr.heap.size wr (wr.alloc (.cells #[.int .u8 ((n7 % 256 : Nat) : Int), .int .u8 ((n7 / 256 % 256 : Nat) : Int)] 5)) := (Below.refl _ _).alloc (Nat.le_refl _) _
              have HT1 := hide (HT.out.below hb1)
              have HB1 := hide (HB.out.trans (hb1.mono HB.out.size))
              have HR1 := hide (two_row wr ((n7 % 256 : Nat) : Int) ((n7 / 256 % 256 : Nat) : Int) 5)
              have hbz : Hid (w.heap.size ≤ (wr.alloc (.cells #[.int .u8 ((n7 % 256 : Nat) : Int), .int .u8 ((n7 / 256 % 256 : Nat) : Int)] 5)).heap.size) := HB1.out.size
              have ht9 : Hid (tab (kvs L) k ++ [((n7 % 256 : Nat) : Int), ((n7 / 256 % 256 : Nat) : Int)] = tab (kvs L) (k + 1)) := by show _ = _; rw [HTAB.out, if_pos hk8]; rfl
              clear hb1
              go_wp2_with (first
                | (at_builtin; refine app_list rfl (.tmp 40) (.tmp 49) 23 rfl w.heap.size 5 i0 Try.underlying23 hi0 hz0 hz1 hz2 (.slice a8 n8 c8) (tab (kvs L) k) rfl HT1.out.o2 (some ⟨wr.heap.size, 0, none⟩) 2 2 [((n7 % 256 : Nat) : Int), ((n7 / 256 % 256 : Nat) : Int)] rfl rfl (by intro h; cases h) HR1.out (by rw [L8.out]; omega) hbz.out ?_; intro v3 w3 ho3 hg3 hk3; rw [ht9.out] at ho3; have HT3 := hide (HT1.out.set2 ho3 hg3 hk3); have HB3 := hide (below_grown HB1.out (Nat.le_refl _) hg3 HT1.out.o2); obtain ⟨a9, c9, rfl, _⟩ := owns_openN ho3 L9.out; clear ho3 hg3 hk3)
                | fail)
              go_meet
              exact ⟨a9, c9, rfl, HT3, HB3⟩
            · obtain rfl : b8 = false := by rw [HB8.out, decide_eq_false hk8]
              have ht9 : tab (kvs L) (k + 1) = tab (kvs L) k := by rw [HTAB.out, if_neg hk8]
              obtain rfl : n9 = n8 := by rw [← L9.out, ← L8.out, ht9]
              go_wp2_with fail
              go_meet
              exact ⟨a8, c8, rfl, by rw [ht9]; exact HT, HB⟩
          case rest =>
            obtain ⟨a9, c9, rfl, HT9, HB9⟩ := hcut
            clear HT HB HTAB
            have hen := HE.out.below HB9.out
            have c0 := hen.at0 k hkL
            have c1 := hen.at1 k hkL
            have ok := hide (hen.ok k hkL)
            unfold Ent.kv at c0
            unfold Ent.vv at c1
            have hbr : b < wc.heap.size := hen.lt (by omega)
            have hbw : b < w.heap.size := HE.out.lt (by omega)
            obtain ⟨pa, pc, hpr, hpn, hpl, _, HPV⟩ := rprev_any (some ⟨b, o, none⟩) b o l c k L wc hl hm (fun _ => rfl) hen (by omega)
            have HPV1 := hide (HPV wc.drew ((Below.refl _ _).drew))
            have HBO := hide (pv_take L k hkL)
            have hpv64 := HG.out.1.pvl k (by rw [kvs_len]; omega)
            have hks := HG.out.1.k1 k (by rw [kvs_len]; omega)
            have hvs := HG.out.1.v1 k (by rw [kvs_len]; omega)
            rw [kvs_ky L k hkL] at hks
            rw [kvs_vl L k hkL] at hvs
            clear hen HPV
            obtain ⟨en, hen⟩ : ∃ en, en = L[k] := ⟨_, rfl⟩
            rw [← hen] at c0 c1 ok HBO hks hvs
            have hkv := (HE.out).at0 k hkL
            have hvv := (HE.out).at1 k hkL
            rw [← hen] at hkv hvv
            unfold Ent.kv at hkv
            unfold Ent.vv at hvv
            have HKV := hide hkv
            have HVV := hide hvv
            clear hen hkv hvv
            obtain ⟨px, hpx⟩ : ∃ px, px = pvOf (kvs L) k := ⟨_, rfl⟩
            rw [← hpx] at hpr hpn hpl HPV1 HBO hpv64
            obtain ⟨np, hnp⟩ : ∃ np, px.length = np := ⟨_, rfl⟩
            rw [hnp] at hpn hpl HPV1 hpv64
            have HRB : Hid (Calls Try.prog 44 #[.slice pa np pc, .agg #[.slice en.ka en.ks.length en.kc, .slice en.va en.vs.length en.vc]] wc.drew fun e w' => ∃ a6 c6 n6, e = .returned (.slice a6 n6 c6) ∧ (encP px en.ks en.vs).length = n6 ∧ Row w' .u8 a6 (encP px en.ks en.vs) ∧ (a6 = none → n6 = 0 ∧ c6 = 0) ∧ Below wc.heap.size wc w') := by
              refine (rbytes_any pa en.ka en.va np pc en.ks.length en.kc en.vs.length en.vc px en.ks en.vs wc.drew hnp rfl rfl (by omega) (by omega) (by omega) ok.out.lk ok.out.nv ok.out.nk (show Row wc .u8 _ _ from hpr) (show Row wc .u8 _ _ from ok.out.k) (show Row wc .u8 _ _ from ok.out.v)).mono ?_
              rintro e w6 ⟨u, rfl, ho, hb⟩
              rw [encE_P] at ho
              obtain ⟨a6, c6, rfl, hr6, hn6, _⟩ := ho.slice
              exact ⟨a6, c6, _, rfl, rfl, hr6, hn6, hb.os, hb.tape, hb.output, hb.size, hb.block⟩
            have hepl := encP_len px en.ks en.vs hks.2 hvs
            obtain ⟨n10, hn10⟩ : ∃ n10, (enc l ++ bod (kvs L) (k + 1)).length = n10 := ⟨_, rfl⟩
            have L10 := hide hn10
            have HBO2 : Hid (enc l ++ bod (kvs L) k ++ encP px en.ks en.vs = enc l ++ bod (kvs L) (k + 1)) := by show _ = _; rw [HBO.out, List.append_assoc]
            have hn7' : Hid ((enc l ++ bod (kvs L) k).length = n7) := L7
            clear hn10 hpr hpn hpl hpx hnp hks hvs HBO
            have hwN : w.heap.size ≤ wc.heap.size := HB9.out.size
            go_wp2_with fail
            go_region_held3 (fun W => W.cell? ⟨b, o + k * 2, none⟩ = some (.slice en.ka en.ks.length en.kc) ∧ W.cell? ⟨b, o + k * 2 + 1, none⟩ = some (.slice en.va en.vs.length en.vc)) (go_keep) (first
              | (refine step_app rfl (.tmp 51) (.tmp 59) 23 rfl w.heap.size 5 i0 Try.underlying23 hi0 hz0 hz1 hz2 (.slice a7 n7 c7) (enc l ++ bod (kvs L) k) (by simp [Act.eval]) HT6.out.o1 a6 n6 c6 (encP px en.ks en.vs) (by simp [Act.eval]) H6L.out H6N.out H6R.out (by rw [L7.out, ← H6L.out]; omega) HZ6.out ?_; intro v7 w7 hv7 hg7 hk7; rw [HBO2.out] at hv7; have HT7 := hide (HT6.out.set1 hv7 hg7 hk7); have HB7 := hide (below_grown HB6.out (Nat.le_refl _) hg7 HT6.out.o1); have g0 := (HB7.out.cell (p := ⟨b, o + k * 2, none⟩) hbw).trans HKV.out; have g1 := (HB7.out.cell (p := ⟨b, o + k * 2 + 1, none⟩) hbw).trans HVV.out; obtain ⟨a10, c10, rfl, _⟩ := owns_openN hv7 L10.out; clear hv7 hg7 hk7)
              | (go_at_call 44; refine HRB.out.mono ?_; rintro e w6 ⟨a6, c6, n6, rfl, h6l, h6r, h6n, h6b⟩; have HT6 := hide (HT9.out.below h6b); have HB6 := hide (HB9.out.trans (h6b.mono hwN)); have f0 := (h6b.cell (p := ⟨b, o + k * 2, none⟩) hbr).trans c0; have f1 := (h6b.cell (p := ⟨b, o + k * 2 + 1, none⟩) hbr).trans c1; have H6L := hide h6l; have H6R := hide h6r; have H6N := hide h6n; have HZ6 := hide (Nat.le_trans hwN h6b.size); clear h6l h6r h6n h6b)
              | (go_at_call 45; refine keep HPV1.out ?_)
              | fail)
            all_goals
              go_wp2_with fail
              go_roundw
              case rel => exact ⟨k + 1, n10, n9, a10, c10, a9, c9, by omega, rfl, rfl, by go_num, L10, L9, HT7, HB7⟩
              case measure => simp [intOf]; omega
        · obtain rfl : k = l := by omega
          have i1 : ¬ (k : Int) < (k : Int) := by omega
          have HR8 : Hid (Row wr .u8 a8 (tab (kvs L) k)) := row_of_owns2 (n := n8) (by have := HT.out.o2; rw [L8.out] at this; exact this)
          have HN8 : Hid (a8 = none → n8 = 0 ∧ c8 = 0) := by
            obtain ⟨a', c', h1, h2, _⟩ := owns_openN HT.out.o2 L8.out
            cases h1
            exact h2
          obtain ⟨nz, hnz⟩ : ∃ nz, (bldL L 0).length = nz := ⟨_, rfl⟩
          have LZ := hide hnz
          have hbz : Hid (w.heap.size ≤ wr.heap.size) := HB.out.size
          clear hnz
          go_wp2_with (first
            | (at_builtin; refine app_list rfl (.tmp 61) (.tmp 62) 23 rfl w.heap.size 5 i0 Try.underlying23 hi0 hz0 hz1 hz2 (.slice a7 n7 c7) (enc k ++ bod (kvs L) k) rfl HT.out.o1 a8 n8 c8 (tab (kvs L) k) rfl L8.out HN8.out HR8.out (by rw [L7.out]; omega) hbz.out ?_; intro v3 w3 ho3 hg3 hk3; rw [← hBK.out] at ho3; have HB3 := hide (below_grown HB.out (Nat.le_refl _) hg3 HT.out.o1); have HO3 := hide ho3; obtain ⟨a9, c9, rfl, _⟩ := owns_openN ho3 LZ.out; clear ho3 hg3 hk3)
            | fail)
          have HF : Hid (RBPost w L (.returned (.tuple #[.slice a9 nz c9, .int .i64 0, .int .i64 0])) w3) := by
            obtain ⟨a', c', h1, h2, h3, _⟩ := owns_open HO3.out
            rw [LZ.out] at h1
            cases h1
            exact ⟨a9, c9, 0, 0, by rw [LZ.out]; rfl, HB0.out, h2, h3, (fun x hx => by subst hx; exact (HO3.out.lt x.block rfl).1), HB3.out⟩
          go_wp2_with fail
          go_ret3
          exact HF.out
    · have hne : (r != 0) = true := by simp [hr]
      have HF : Hid (RBPost w L (.returned (.tuple #[.slice none 0 0, .int .i64 r, .int .i64 (n : Int)])) w1) := ⟨none, 0, n, r, by unfold bldL; rw [if_neg hr]; rfl, HBE.out n r hsr, by unfold bldL; rw [if_neg hr]; exact row_nil _ _ _, fun _ => by unfold bldL; rw [if_neg hr]; exact ⟨rfl, rfl⟩, (fun x h => by cases h), hb1⟩
      clear hsr hb1
      go_wp2_with fail
      go_ret3
      exact HF.out

end Go.Proofs.Ytjnldmbjeiejdaa
