/- VintBack: the walk. -/
import Derived.Test.YtlphpcacngimhaaPairs
import Derived.Test.YtlphpcacngimhaaRBytes
import Derived.Test.YtlphpcacngimhaaLives
namespace Go.Proofs.Ytlphpcacngimhaa
open Go.RowKit Go.Shelf
attribute [local go_sem] Oper.semAt_some

theorem boxed_below {W W' : World} {B : Nat} {t : TypeId} {v : Value} (h : Boxed W B t v) (hb : Below W.heap.size W W') : Boxed W' B t v := (hb.block B h.lt).trans h

theorem boxed_still {W W' : World} {B : Nat} {t : TypeId} {v : Value} (h : Boxed W B t v) (hb : Still W W') : Boxed W' B t v := by unfold Boxed at *; rw [hb.heap]; exact h

theorem boxed_block {W W' : World} {B : Nat} {t : TypeId} {v : Value} (h : Boxed W B t v) (hb : W'.heap[B]? = W.heap[B]?) : Boxed W' B t v := hb.trans h

/-- How many bytes the first of the numbers have. -/
def fromOf (ns : List Int) (k : Nat) : Nat := (encs (ns.take k)).length
theorem fromOf_succ (ns : List Int) (k : Nat) (h : k < ns.length) : fromOf ns (k + 1) = fromOf ns k + (enc (ns.getD k 0).toNat).length := by
  unfold fromOf; rw [encs_take ns k h, List.length_append]
theorem fromOf_all (ns : List Int) : fromOf ns ns.length = (encs ns).length := by unfold fromOf; rw [List.take_length]
theorem fromOf_le (ns : List Int) (k : Nat) : fromOf ns k ≤ (encs ns).length := encs_len_mono ns k

theorem prefix_snoc {l m : List (Nat × Nat)} {x : Nat × Nat} (h : l <+: m) (hx : m[l.length]? = some x) : l ++ [x] <+: m := by
  obtain ⟨t, rfl⟩ := h
  rw [List.getElem?_append_right (Nat.le_refl _), Nat.sub_self] at hx
  cases t with
  | nil => simp at hx
  | cons y t =>
    simp at hx
    subst hx
    exact ⟨t, by simp⟩
theorem prefix_get {l m : List (Nat × Nat)} {x : Nat × Nat} (h : l ++ [x] <+: m) : m[l.length]? = some x := by
  obtain ⟨t, rfl⟩ := h
  simp

theorem behind_all {ns : List Int} {T : Nat} (h : (encs ns).length = T) : behindS (pairs 0 ns) = T := by
  rw [behind_pairs]
  by_cases e : ns = []
  · subst e; rw [if_pos rfl, ← h]; rfl
  · rw [if_neg e, h]; omega

theorem row_vals {w : World} {base g n cap : Nat} {zs : List Int} (h : w.ownsRow base 25 1 (.slice (some ⟨g, 0, none⟩) n cap) n (zs.map (Value.int .u64))) : Row w .u64 (some ⟨g, 0, none⟩) zs := row_of_owns h

theorem row_vals2 {w : World} {base : Nat} {v : Value} {n : Nat} {zs : List Int} (h : w.ownsRow base 25 1 v n (zs.map (Value.int .u64))) : ∃ a cap, v = .slice a n cap ∧ Row w .u64 a zs := by
  rcases h.2 with ⟨hv, hn⟩ | ⟨g, cap, cur, hv, r⟩
  · subst hn
    have hz : zs = [] := List.eq_nil_of_length_eq_zero (by simpa using h.1)
    subst hz
    exact ⟨none, 0, hv, row_nil _ _ _⟩
  · subst hv
    exact ⟨_, cap, rfl, row_of_owns h⟩

set_option maxRecDepth 100000 in
set_option maxHeartbeats 1000000 in
theorem back_in (n : Nat) (hn : 8 ≤ n) (a1 : Option Addr) (l1 c1 : Nat) (ns : List Int) (a2 : Option Addr) (l2 c2 : Nat) (zs : List Int) (p : Int) (w : World) (hl1 : ns.length = l1) (hm1 : l1 ≤ 17592186043904) (hr1 : Row w .u64 a1 ns) (h64 : Fits64 ns)
    (hl2 : zs.length = l2) (hm2 : l2 ≤ 140737488351232) (hlc2 : l2 ≤ c2) (hr2 : Row w .u8 a2 zs) (h8 : ∀ c ∈ zs, 0 ≤ c ∧ c ≤ 255) (hp : -9223372036854775808 ≤ p ∧ p ≤ 9223372036854775807) :
    CallsIn Fence.wide n Try.prog 8 #[.slice a1 l1 c1, .slice a2 l2 c2, .int .i64 p] w fun e w' => e = .returned (.bool true) ∧ Below w.heap.size w w' := by
  have h1 : 1 ≤ n := by omega
  have HM := hide (mem64_of h64)
  have H8 := hide (encs_mem8 ns (mem64_of h64))
  have hLE := encs_len ns h64 ns.length (Nat.le_refl _)
  rw [List.take_length] at hLE
  have HR1 := hide hr1
  have HR2 := hide hr2
  have HSQ := hide (seq_encs ns (mem64_of h64))
  clear hr1 hr2
  refine callsIn_of_wp_marks Try.func8 rfl trivial ?_ rfl
  simp only [Try.ntmps8, List.size_toArray, List.length_cons, List.length_nil, Nat.reduceAdd, Nat.reduceSub, Array.replicate_succ, Array.replicate_zero, List.push_toArray, List.append_toArray, List.nil_append, List.cons_append]
  gi_wp2
  obtain ⟨W0, hW0⟩ : ∃ W0, (w.alloc (.cells #[.slice a1 l1 c1] 29)).alloc (.cells #[.bool false] 4) = W0 := ⟨_, rfl⟩
  have bL : Boxed W0 w.heap.size 29 (.slice a1 l1 c1) := by rw [← hW0]; exact (Boxed.new w _ _).alloc _
  have bR : Boxed W0 (w.heap.size + 1) 4 (.bool false) := by
    rw [← hW0]; have := Boxed.new (w.alloc (.cells #[.slice a1 l1 c1] 29)) 4 (.bool false); rwa [World.size_alloc] at this
  have hB0 : Below w.heap.size w W0 := by rw [← hW0]; exact ((Below.refl _ w).alloc (Nat.le_refl _) _).alloc (by simp) _
  have hs0 : W0.heap.size = w.heap.size + 1 + 1 := by rw [← hW0]; simp
  rw [hW0]
  clear hW0
  refine ⟨trivial, ((callsIn_wide (n := n - 1)).2 (lives_any W0)).mono ?_⟩
  rintro e w1 ⟨rfl, hb1⟩
  have bL1 := boxed_below bL hb1
  have bR1 := boxed_below bR hb1
  have hB1 : Below w.heap.size w w1 := hB0.trans (hb1.mono (by omega))
  have z1 := hb1.size
  have hcL := bL1.cell
  clear bL bR hb1 hB0
  gi_wp2
  refine ⟨trivial, ((callsIn_wide (n := n - 1)).2 (join_any a1 l1 c1 ns w1 hl1 hm1 (HR1.out.below2 hB1) h64)).mono ?_⟩
  rintro e w2 ⟨rfl, hown2, hb2⟩
  have bL2 := boxed_below bL1 hb2
  have bR2 := boxed_below bR1 hb2
  have hB2 : Below w.heap.size w w2 := hB1.trans (hb2.mono (by omega))
  have z2 := hb2.size
  have HS2 := hide (row_of_owns hown2)
  have hglt := (hown2.lt w1.heap.size rfl).2
  clear hcL bL1 bR1 hb2 hown2 hB1
  generalize w1.heap.size = g at *
  generalize hT : (encs ns).length = T at *
  have HT := hide hT
  clear hT
  gi_wp2
  have hli := list_ok_in (n - 1) (by omega) (some ⟨g, 0, none⟩) T T (encs ns) w2 HT.out (by omega) H8.out HS2.out (by rw [HSQ.out, pairs_len]; omega) (by rw [HSQ.out]; exact behind_all HT.out)
  rw [HSQ.out, pairs_len, pairs_snd 0 ns (fun m hm => (HM.out m hm).1), hl1] at hli
  refine ⟨trivial, hli.mono ?_⟩
  rintro e w3 ⟨v, rfl, hown3, hb3⟩
  obtain ⟨a3, c3, rfl, hr3⟩ := row_vals2 hown3
  have bL3 := boxed_below bL2 hb3
  have bR3 := boxed_below bR2 hb3
  have hB3 : Below w.heap.size w w3 := hB2.trans (hb3.mono (by omega))
  have z3 := hb3.size
  have HS3 := hide (HS2.out.below2 hb3)
  have HR3 := hide hr3
  have hcL3 := bL3.cell
  clear bL2 bR2 hb3 hown3 hB2 HS2 hr3 hli
  gi_wp2
  refine ⟨trivial, ((callsIn_wide (n := n - 1)).2 (nsame_any a3 a1 l1 c3 c1 ns w3 (by unfold maxLen; omega) hl1 HR3.out (HR1.out.below2 hB3))).mono ?_⟩
  rintro e w4 ⟨rfl, hst4⟩
  have bL4 := boxed_still bL3 hst4
  have bR4 := boxed_still bR3 hst4
  have hB4 : Below w.heap.size w w4 := hB3.trans (hst4.below _)
  have hz4 : w3.heap.size ≤ w4.heap.size := by rw [hst4.heap]; exact Nat.le_refl _
  have HS4 := hide (hst4.row HS3.out)
  clear bL3 bR3 hcL3 hst4 HR3 HS3 hB3
  gi_wp2
  refine ⟨trivial, ((callsIn_wide (n := n - 1)).2 (all_in (some ⟨g, 0, none⟩) T T _)).mono ?_⟩
  rintro e w' ⟨rfl, rfl⟩
  gi_wp2
  have bF := ((Boxed.new w4 3 (.int .i64 0)).alloc (.cells #[.int .i64 0] 3)).alloc (.cells #[.slice (some ⟨g, 0, none⟩) T T] 23)
  have bK := (Boxed.new (w4.alloc (.cells #[.int .i64 0] 3)) 3 (.int .i64 0)).alloc (.cells #[.slice (some ⟨g, 0, none⟩) T T] 23)
  have bS := Boxed.new ((w4.alloc (.cells #[.int .i64 0] 3)).alloc (.cells #[.int .i64 0] 3)) 23 (.slice (some ⟨g, 0, none⟩) T T)
  rw [World.size_alloc] at bK
  rw [World.size_alloc, World.size_alloc] at bS
  have hB5 : Below w4.heap.size w4 (((w4.alloc (.cells #[.int .i64 0] 3)).alloc (.cells #[.int .i64 0] 3)).alloc (.cells #[.slice (some ⟨g, 0, none⟩) T T] 23)) := (((Below.refl _ w4).alloc (Nat.le_refl _) _).alloc (by simp) _).alloc (by simp; omega) _
  have hN : (seq (encs ns)).length = ns.length := by rw [HSQ.out, pairs_len]
  have HN := hide hN
  clear hN
  refine wpIn_rangeFunc_ownG rfl h1 (gf := 32) (lb := #[.pointer (some ⟨w4.heap.size + 1 + 1, 0, none⟩)]) rfl trivial (enters_of Try.func32 (by kernel_rfl) rfl)
    (all_stops (n - 1) (by omega) (w4.heap.size + 1 + 1) w4.heap.size T T (some ⟨g, 0, none⟩) (encs ns) HT.out (by omega) H8.out _ (by simp) (by simp; omega) ns.length (by rw [HN.out]; exact Nat.le_refl _) bS.cell (HS4.out.below2 hB5) (fun x hx hp => by cases hx; show g < _; omega))
    Kb.t (Kb.b (by simp; omega) (by simp)) (Below.refl _ _) (fun _ => rfl)
    (fun pre W => (((Boxed W w4.heap.size 3 (.int .i64 (fromOf ns pre.length : Int)) ∧ Boxed W (w4.heap.size + 1) 3 (.int .i64 (pre.length : Int))) ∧ Boxed W (w4.heap.size + 1 + 1) 23 (.slice (some ⟨g, 0, none⟩) T T)) ∧ pre.map (·.1) <+: pairs 0 ns) ∧ Below w4.heap.size w4 W)
    (fun _ pre _ => ¬ pre.map (·.1) <+: pairs 0 ns)
    (OwnFrom.and (OwnFrom.and (OwnFrom.and (OwnFrom.and (Own.from (boxed_own _ _ _) _) (Own.from (boxed_own _ _ _) _)) (Own.from (boxed_own _ _ (fun _ => .slice (some ⟨g, 0, none⟩) T T)) _)) (ownFrom_pure _ _)) (ownFrom_below (Nat.le_refl _) (by simp; omega)))
    (fun _ => ownFrom_pure _ _)
    ⟨⟨⟨⟨bF, bK⟩, bS⟩, List.nil_prefix⟩, hB5⟩
    (fun x => { tmps := #[.slice a1 l1 c1, .slice a2 l2 c2, .int .i64 p, .pointer (some ⟨w.heap.size, 0, none⟩), undef, undef, .pointer (some ⟨w.heap.size + 1, 0, none⟩), .bool true, .slice (some ⟨g, 0, none⟩) T T, .slice a3 l1 c3, .int .i64 0, .int .i64 0, .bool true, .pointer (some ⟨w4.heap.size, 0, none⟩), .pointer (some ⟨w4.heap.size + 1, 0, none⟩), .int .i64 (x.1.1 : Int), .int .u64 (x.1.2 : Int), undef, undef, undef, undef, undef, .bool true, .slice a1 l1 c1, .slice (some ⟨g, 0, none⟩) T T, .tuple #[.slice a3 l1 c3, .int .i64 0, .int .i64 0], .slice (some ⟨g, 0, none⟩) T T, .tuple #[.slice a3 l1 c3, .int .i64 0, .int .i64 0], .slice a3 l1 c3, .int .i64 0, .int .i64 0, .slice a3 l1 c3, .slice a1 l1 c1, .bool true, .bool true, .bool false, .bool false, .bool true, .bool false, .bool false, .bool false, .int .i64 0, .bool false, .bool false, .bool false, .int .i64 0, .bool false, .bool false, .slice (some ⟨g, 0, none⟩) T T, .func (.func 32) #[] #[.pointer (some ⟨w4.heap.size + 1 + 1, 0, none⟩)], .int .i64 (x.1.1 : Int), .int .u64 (x.1.2 : Int), undef, undef, undef, undef, undef, undef, undef, undef, undef, undef, undef, undef, undef, undef, undef, undef, undef, undef, undef, undef, undef, undef, undef, undef, undef, undef, undef, undef, undef, undef, undef, undef, undef, undef, undef, undef, undef, undef, undef, undef, undef, undef, undef, undef, undef, undef, undef, undef, undef, undef, undef, undef, undef, undef, undef, undef, undef, undef, undef, undef, undef, undef, undef, undef], defers := [] }) ?assign ?body ?done ?stop
  case assign =>
    intro l x W K hK
    simp only [vxs]
    gi_wp2
    exact hK
  case body =>
    rintro l pre x W ⟨⟨⟨⟨hF, hKx⟩, hSx⟩, hpre⟩, hB⟩ hlt
    have hx2 := x.2
    have bLx := boxed_block bL4 (hB.block _ bL4.lt)
    have cL := bLx.cell
    have cF := hF.cell
    have cK := hKx.cell
    have fF := hF.frozen
    have fK := hKx.frozen
    have hB4x : Below w.heap.size w W := hB4.trans (hB.mono hB4.size)
    obtain ⟨b1, o1, ha1, hcl⟩ := (HR1.out.below2 hB4x) pre.length hlt
    have h64k := h64 pre.length
    obtain ⟨c, hcN⟩ := Int.eq_ofNat_of_zero_le h64k.1
    have hget := pairs_get ns 0 pre.length hlt
    have hsucc := fromOf_succ ns pre.length hlt
    rw [hcN, Int.toNat_natCast] at hget hsucc
    rw [hcN] at hcl h64k
    have hfl := fromOf_le ns (pre.length + 1)
    have bRx := boxed_block bR4 (hB.block _ bR4.lt)
    have cR := bRx.cell
    have fR := bRx.frozen
    have hplen : (pre.map (·.1)).length = pre.length := by simp
    have HGET := hide hget
    have HSUC := hide hsucc
    have hT2 : fromOf ns (pre.length + 1) ≤ 200000000000000 := by have := HT.out; omega
    have hf1 : fromOf ns pre.length + (enc c).length ≤ 200000000000000 := by rw [← hsucc]; exact hT2
    have t0 : ¬ (l1 : Int) ≤ (pre.length : Int) := by omega
    have HPRE := hide hpre
    have HBK := hide hB
    subst ha1
    clear hget hsucc hcN hT2 hfl hpre hB hB4x
    by_cases hma : x.1.1 = fromOf ns pre.length
    · by_cases hmb : x.1.2 = c
      · have t1 : ((x.1.1 : Int) != (fromOf ns pre.length : Int)) = false := by rw [hma]; simp
        have t2 : ((x.1.2 : Int) != (c : Int)) = false := by rw [hmb]; simp
        have hSZ := fun W' => size_any (x.1.2 : Int) W' (by omega) (by omega)
        rw [Int.toNat_natCast, vsize_enc _ hx2.2] at hSZ
        have hLx : (enc x.1.2).length = (enc c).length := by rw [hmb]
        rw [hLx] at hSZ
        have HSZ := hide hSZ
        have HX : Hid (x.1 = (fromOf ns pre.length, c)) := by show _ = _; rw [← hma, ← hmb]
        clear hSZ hLx hma hmb cR fR
        generalize hLc : (enc c).length = Lc at *
        have HLc := hide hLc
        clear hLc
        generalize hFo : fromOf ns pre.length = fo at *
        have HFo := hide hFo
        clear hFo
        gi_wp2
        refine ⟨trivial, fun _ => by omega, (CallsIn.inRound l ((callsIn_wide (n := n - 1 - 1 - 1)).2 (HSZ.out _))).mono ?_⟩
        rintro e w6 ⟨rfl, hw6⟩
        have hw6' := hw6.symm
        subst hw6'
        gi_wp2
        have hK2 := (hKx.other (B' := w4.heap.size) (by omega) (.int .i64 ((fo : Int) + (Lc : Int)))).set (.int .i64 ((pre.length : Int) + 1))
        have hF2 := (hF.set (.int .i64 ((fo : Int) + (Lc : Int)))).other (B' := w4.heap.size + 1) (by omega) (.int .i64 ((pre.length : Int) + 1))
        have hS2 := (hSx.other (B' := w4.heap.size) (by omega) (.int .i64 ((fo : Int) + (Lc : Int)))).other (B' := w4.heap.size + 1) (by omega) (.int .i64 ((pre.length : Int) + 1))
        have hb2 : Below w4.heap.size W ((W.setCell ⟨w4.heap.size, 0, none⟩ (.int .i64 ((fo : Int) + (Lc : Int)))).setCell ⟨w4.heap.size + 1, 0, none⟩ (.int .i64 ((pre.length : Int) + 1))) := ((Below.refl _ W).setCell (p := ⟨w4.heap.size, 0, none⟩) (Nat.le_refl _) _).setCell (p := ⟨w4.heap.size + 1, 0, none⟩) (by simp) _
        refine ⟨((KeepsOthers.setCell _ _ _).trans (KeepsOthers.setCell _ _ _)).from _, ⟨hb2, (show _ = _ from hS2).trans (show _ = _ from hSx).symm⟩, ⟨⟨⟨?_, ?_⟩, hS2⟩, ?_⟩, HBK.out.trans hb2⟩
        · rw [List.length_append, List.length_singleton, HSUC.out, Int.natCast_add]
          exact hF2
        · rw [List.length_append, List.length_singleton, Int.natCast_add]
          exact hK2
        · rw [List.map_append]
          refine prefix_snoc HPRE.out ?_
          rw [hplen, HGET.out]
          show some _ = some x.1
          rw [HX.out, ← HFo.out, Nat.zero_add]
          rfl
      · have t1 : ((x.1.1 : Int) != (fromOf ns pre.length : Int)) = false := by rw [hma]; simp
        have t2 : ((x.1.2 : Int) != (c : Int)) = true := by rw [bne_iff_ne]; omega
        have HX : Hid (¬ x.1.2 = c) := hmb
        clear hma hmb
        gi_wp2
        refine ⟨(KeepsOthers.setCell _ _ _).from _, fun hpp => ?_⟩
        rw [List.map_append] at hpp
        have hg2 := prefix_get hpp
        rw [hplen, HGET.out] at hg2
        have hg3 : (0 + (encs (ns.take pre.length)).length, c) = x.1 := Option.some.inj hg2
        exact HX.out (by rw [← hg3])
    · have t1 : ((x.1.1 : Int) != (fromOf ns pre.length : Int)) = true := by rw [bne_iff_ne]; omega
      have HX : Hid (¬ x.1.1 = fromOf ns pre.length) := hma
      clear hma
      gi_wp2
      refine ⟨(KeepsOthers.setCell _ _ _).from _, fun hpp => ?_⟩
      rw [List.map_append] at hpp
      have hg2 := prefix_get hpp
      rw [hplen, HGET.out] at hg2
      have hg3 : (0 + (encs (ns.take pre.length)).length, c) = x.1 := Option.some.inj hg2
      exact HX.out (by rw [← hg3, Nat.zero_add]; rfl)
  case done =>
    rintro D ys W hD hys ⟨⟨⟨⟨hF, hKx⟩, hSx⟩, hpre⟩, hB⟩ hK
    have hyl : ys.length = ns.length := by have := congrArg List.length hys; rw [HN.out] at this; simpa using this
    rw [hyl, fromOf_all, HT.out] at hF
    rw [hyl, hl1] at hKx
    have cF := hF.cell
    have cK := hKx.cell
    have cL := (boxed_block bL4 (hB.block _ bL4.lt)).cell
    have bRx := boxed_block bR4 (hB.block _ bR4.lt)
    have hB4x : Below w.heap.size w W := hB4.trans (hB.mono hB4.size)
    have hDlt : D < W.heap.size := (Array.getElem?_eq_some_iff.1 hK).1
    have HK := hide hK
    have HRD := hide ((callsIn_wide (n := n - 1)).2 (read_any a2 l2 c2 p zs W hl2 (by unfold maxLen; omega) (HR2.out.below2 hB4x) (fits8_of_mem h8)))
    have hD1 : w.heap.size + 1 < D := by simp at hD; have := hB4.size; omega
    have hDw : w.heap.size ≤ D := by omega
    clear hys hpre hyl hK bF bK bS hB5 hF hKx hSx hB hD
    gi_wp2
    refine ⟨trivial, HRD.out.mono ?_⟩
    rintro e w7 ⟨rfl, hb7⟩
    have bR7 := boxed_below bRx hb7
    have hB7 : Below w.heap.size w w7 := hB4x.trans (hb7.mono (by have := hB4x.size; omega))
    have hK7 : w7.heap[D]? = some (.deferred (some [])) := (hb7.block D hDlt).trans HK.out
    have cR := bR7.cell
    have fR := bR7.frozen
    have HK7 := hide hK7
    have z7 := hb7.size
    clear hK7 HRD hb7 bRx cF cK cL
    by_cases he : rdErr zs p = 0
    · have hpr : ¬ (p < 0 ∨ (zs.length : Int) < p) := fun h => by unfold rdErr at he; rw [if_pos h] at he; exact absurd he (by decide)
      obtain ⟨q, rfl⟩ := Int.eq_ofNat_of_zero_le (show 0 ≤ p by omega)
      have hs0 : (scan 0 0 (zs.drop q)).2.2 = 0 := by unfold rdErr at he; rw [if_neg hpr] at he; exact he
      have hsb := scan_bound0 (zs.drop q) (fun c hc => h8 c (List.mem_of_mem_drop hc))
      have hbk := scan_back0 (zs.drop q) (fun c hc => h8 c (List.mem_of_mem_drop hc)) hs0
      have eN : rdNum zs (q : Int) = (scan 0 0 (zs.drop q)).1 := by unfold rdNum; rw [if_neg hpr]; rfl
      have eE : rdEnd zs (q : Int) = (q : Int) + (scan 0 0 (zs.drop q)).2.1 := by unfold rdEnd; rw [if_neg hpr]; rfl
      rw [he, eN, eE]
      rw [List.length_drop] at hsb
      obtain ⟨M, hM⟩ := Int.eq_ofNat_of_zero_le hsb.1
      have hm0 := hsb.2.2.2 hs0
      rw [hM] at hsb ⊢
      rw [hM, Int.toNat_natCast] at hbk
      generalize hmm : (scan 0 0 (zs.drop q)).2.1 = m at *
      have hM64 : M ≤ 18446744073709551615 := by omega
      have hqm : q + m ≤ l2 := by omega
      have HBK := hide hbk
      obtain ⟨b2, o2, ha2, hbl2, hc2⟩ := (HR2.out.below2 hB7).cons (by omega)
      subst ha2
      clear hbk hmm hsb eN eE he hs0 hM
      have t1 : ¬ ((q : Int) < 0) := by omega
      have t2 : ¬ ((q : Int) + (m : Int) ≤ (q : Int)) := by omega
      have t3 : ¬ ((l2 : Int) < (q : Int) + (m : Int)) := by omega
      clear cR fR
      gi_wp2
      refine ⟨trivial, ((callsIn_wide (n := n - 1)).2 (bytes_any M w7 hM64)).mono ?_⟩
      rintro e w8 ⟨rfl, hown8, hb8⟩
      have bR8 := boxed_below bR7 hb8
      have hrow8 := row_of_owns hown8
      have hB8 : Below w.heap.size w w8 := hB7.trans (hb8.mono (by have := hB7.size; omega))
      have hK8 : w8.heap[D]? = some (.deferred (some [])) := (hb8.block D (by omega)).trans HK7.out
      have z8 := hb8.size
      have hlen : (enc M).length = m := by rw [HBK.out, List.length_take, List.length_drop]; omega
      have hrs : Row w8 .u8 (some ⟨b2, o2 + q, none⟩) ((zs.drop q).take m) := by
        intro i hi
        rw [List.length_take, List.length_drop] at hi
        refine ⟨b2, o2 + q, rfl, ?_⟩
        rw [Nat.add_assoc]
        have := (hb8.cell (p := ⟨b2, o2 + (q + i), none⟩) (by show b2 < _; omega)).trans (hc2 (q + i) (by omega))
        rw [this]
        simp only [List.getD_eq_getElem?_getD]
        rw [List.getElem?_take, if_pos (by omega), List.getElem?_drop]
      have hsame := same_any (some ⟨w7.heap.size + 1, 0, none⟩) (some ⟨b2, o2 + q, none⟩) m m m (c2 - q) (enc M) ((zs.drop q).take m) w8 (by unfold maxLen; omega) hlen (by rw [List.length_take, List.length_drop]; omega) hrow8 hrs
      rw [decide_eq_true HBK.out] at hsame
      have HSM := hide ((callsIn_wide (n := n - 1)).2 hsame)
      rw [hlen]
      clear hown8 hrow8 hrs hsame hc2 hlen
      gi_wp2
      refine ⟨trivial, HSM.out.mono ?_⟩
      rintro e w9 ⟨rfl, hst9⟩
      have bR9 := boxed_still bR8 hst9
      have cR := bR9.cell
      have fR := bR9.frozen
      have hK9 : w9.heap[D]? = some (.deferred (some [])) := by rw [hst9.heap]; exact hK8
      have hB9 : Below w.heap.size w w9 := hB8.trans (hst9.below _)
      clear bR8 bR7 hB8 hB7 hK8 hst9 HSM
      gi_wp2
      have hK10 : (w9.setCell ⟨w.heap.size + 1, 0, none⟩ (.bool true)).heap[D]? = some (.deferred (some [])) := (Below.heap_setCell _ _ _ _ (by show D ≠ w.heap.size + 1; omega)).trans hK9
      refine ⟨by simp, .inl ⟨_, _, rfl, run_takeDeferred hK10, ?_⟩⟩
      have bR10 : Boxed ((w9.setCell ⟨w.heap.size + 1, 0, none⟩ (.bool true)).putObj D (.deferred none)) (w.heap.size + 1) 4 (.bool true) := (World.putObj_heap_other (by omega)).trans (bR9.set (.bool true))
      have cR10 := bR10.cell
      exact ⟨.bool true, by simp [results, Try.results8, go_sem, cR10], rfl, (hB9.setCell (p := ⟨w.heap.size + 1, 0, none⟩) (by simp) _).trans (belowK_b (w := w) (Nat.le_refl _) _ D _ _ hDw hK10 rfl rfl)⟩
    · have hne : (rdErr zs p != 0) = true := by simpa using he
      generalize rdErr zs p = er at *
      generalize rdEnd zs p = en at *
      generalize rdNum zs p = nu at *
      clear he
      gi_wp2
      have hK8 : (w7.setCell ⟨w.heap.size + 1, 0, none⟩ (.bool true)).heap[D]? = some (.deferred (some [])) := (Below.heap_setCell _ _ _ _ (by show D ≠ w.heap.size + 1; omega)).trans HK7.out
      refine ⟨by simp, .inl ⟨_, _, rfl, run_takeDeferred hK8, ?_⟩⟩
      have bR9 : Boxed ((w7.setCell ⟨w.heap.size + 1, 0, none⟩ (.bool true)).putObj D (.deferred none)) (w.heap.size + 1) 4 (.bool true) := (World.putObj_heap_other (by omega)).trans (bR7.set (.bool true))
      have cR9 := bR9.cell
      exact ⟨.bool true, by simp [results, Try.results8, go_sem, cR9], rfl, (hB7.setCell (p := ⟨w.heap.size + 1, 0, none⟩) (by simp) _).trans (belowK_b (w := w) (Nat.le_refl _) _ D _ _ hDw hK8 rfl rfl)⟩
  case stop =>
    rintro D c pre W _ hsp hix _
    exact absurd (by rw [← HSQ.out]; exact hsp) hix

end Go.Proofs.Ytlphpcacngimhaa
