/- PipeSinks: the walk. -/
import Derived.Test.YtpjldnjcomdhkaaPRef2
import Derived.Test.YtpjldnjcomdhkaaPRInst
import Derived.Test.YtpjldnjcomdhkaaPCalls
import Derived.Test.YtpjldnjcomdhkaaPSame
namespace Go.Proofs.Ytpjldnjcomdhkaa
open Go.RowKit

/-- A slice of texts. -/
structure IsTs (w : World) (a : Option Addr) (len : Nat) (Af : Nat → Option Addr) (Lf Cf : Nat → Nat) (Zf : Nat → List Int) : Prop where
  cells : ∀ i, i < len → ∃ b o, a = some ⟨b, o, none⟩ ∧ w.cell? ⟨b, o + i, none⟩ = some (.slice (Af i) (Lf i) (Cf i))
  none : ∀ i, i < len → Af i = none → Lf i = 0 ∧ Cf i = 0
  zlen : ∀ i, i < len → (Zf i).length = Lf i
  cap : ∀ i, i < len → Lf i ≤ Cf i
  row : ∀ i, i < len → Row w .u8 (Af i) (Zf i)
def tot (Lf : Nat → Nat) : Nat → Nat
  | 0 => 0
  | i + 1 => tot Lf i + Lf i
theorem tot_le (Lf : Nat → Nat) {i n : Nat} (h : i ≤ n) : tot Lf i ≤ tot Lf n := by
  induction n with
  | zero => obtain rfl : i = 0 := by omega
            exact Nat.le_refl _
  | succ n ih =>
    rcases Nat.lt_or_ge i (n + 1) with h1 | h1
    · have := ih (by omega); simp only [tot]; omega
    · obtain rfl : i = n + 1 := by omega
      exact Nat.le_refl _

theorem wsnk_any {W : World} {B : Nat} {M : Nat → Prop} {ts : List Int} {fail : Int} {g c : Nat} {zs : List Int} (p : Option Addr) (len pc : Nat) (ys : List Int) (h : SnkAt W B M ts fail g c zs) (hc : c < 4611686018427387904)
    (hl : ys.length = len) (hpc : len ≤ pc) (hn0 : p = none → len = 0 ∧ pc = 0) (hr : Row W .u8 p ys) (hpg : ∀ x, p = some x → 0 < len → x.block ≠ g) (hz : zs.length + len ≤ 140737488355328) (hB : B ≤ W.heap.size) :
    Calls Try.prog 19 #[.pointer (some ⟨g, 0, none⟩), .slice p len pc] W fun e w' => e = .returned (.tuple #[.int .i64 (snkWf ts fail (c, zs) ys).1, .int .i64 (snkWf ts fail (c, zs) ys).2.1]) ∧ ∃ M', SnkAt w' B M' ts fail g (snkWf ts fail (c, zs) ys).2.2.1 (snkWf ts fail (c, zs) ys).2.2.2 ∧ Upd M W w' ∧ ∀ i, M' i → M i ∨ W.heap.size ≤ i := by
  by_cases hf : failsAt fail (c + 1) = true
  · refine (write_broken (.slice p len pc) h hc hf).mono fun e W' ⟨h1, h2, h3⟩ => ⟨?_, M, ?_, h3.mono (fun i _ e => e ▸ h.mg), fun i hi => .inl hi⟩
    · simp only [snkWf, hf, if_true]; exact h1
    · simp only [snkWf, hf, if_true]; exact h2
  · have hf' : failsAt fail (c + 1) = false := by simpa using hf
    refine (write_go p len pc ys (mostN ts (c + 1) len) h hc hf' hl hpc hn0 hr hpg hz hB rfl).mono fun e W' ⟨h1, M', h2, h3, h4⟩ => ⟨?_, M', ?_, h3, h4⟩
    · simp only [snkWf, hf', hl]; exact h1
    · simp only [snkWf, hf', hl]; exact h2

theorem one_row (W : World) (x : Int) : Row (W.alloc (.cells #[.int .u8 x] 5)) .u8 (some ⟨W.heap.size, 0, none⟩) [x] := by
  intro i hi
  refine ⟨_, _, rfl, ?_⟩
  rw [cell_of_row _ _ _ _ _ _ (World.alloc_heap_new W _)]
  match i, hi with
  | 0, _ => rfl

/-- At the head of a round. -/
structure SK (w3 W : World) (N : Nat) (ts : List Int) (fail : Int) (at' : Option Addr) (lt ct : Nat) (g r i T : Nat) (ys : List Int) (M2 M4 : Nat → Prop) : Prop where
  snk : SnkAt W N M2 ts fail g i ys
  rsn : RSAt W N M4 at' lt ct ts fail r i ys
  d24 : ∀ j, M2 j → ¬ M4 j
  up : Upd (fun j => N ≤ j) w3 W
  hN : N ≤ W.heap.size
  bys : ys.length ≤ T
theorem SK.upd {w3 W W' : World} {N : Nat} {ts : List Int} {fail : Int} {at' : Option Addr} {lt ct g r i T : Nat} {ys : List Int} {M2 M4 S : Nat → Prop} (h : SK w3 W N ts fail at' lt ct g r i T ys M2 M4) (hu : Upd S W W') (hs : ∀ j, S j → N ≤ j ∧ ¬ M2 j ∧ ¬ M4 j) : SK w3 W' N ts fail at' lt ct g r i T ys M2 M4 :=
  ⟨h.snk.upd hu (fun j hj e => (hs j e).2.1 hj), h.rsn.upd hu (fun j e => ⟨(hs j e).1, (hs j e).2.2⟩), h.d24, h.up.then hu (fun j _ e => (hs j e).1), Nat.le_trans h.hN hu.size, h.bys⟩

set_option maxRecDepth 100000 in
set_option maxHeartbeats 3200000 in
theorem pipeSinks_any (at' ap : Option Addr) (lt ct n cp : Nat) (ts : List Int) (fail : Int) (Af : Nat → Option Addr) (Lf Cf : Nat → Nat) (Zf : Nat → List Int) (w : World)
    (hlt : ts.length = lt) (hmt : lt * 8 ≤ 140737488351232) (hn : n ≤ 1048576) (htot : tot Lf n ≤ 1048576) (nt : at' = none → lt = 0 ∧ ct = 0) (rt : Row w .i64 at' ts) (hP : IsTs w ap n Af Lf Cf Zf) :
    Calls Try.prog 5 #[.slice at' lt ct, .int .i64 fail, .slice ap n cp] w fun e w' => e = .returned (.bool true) ∧ Below w.heap.size w w' := by
  obtain ⟨i0, hi0, hz0, hz1, hz2⟩ := info_parts' infoByte'
  have HRT := hide rt
  have HNT := hide nt
  have HP := hide hP
  clear rt nt hP
  go_enter Try.func5, Try.ntmps5
  go_wp2_with fail
  obtain ⟨N, hN⟩ : ∃ N, N = w.heap.size := ⟨_, rfl⟩
  replace hN := hide hN
  refine (lives_any w).mono ?_
  rintro e w1 ⟨rfl, hb1⟩
  have hb01 : Below N w w1 := hN.out ▸ hb1
  have hz1' : N ≤ w1.heap.size := by have := hb1.size; have := hN.out; omega
  clear hb1
  go_wp2_with fail
  refine (sink_any at' lt ct ts fail w1 hlt (by omega) HNT.out (HRT.out.below2 (hN.out ▸ hb01))).mono ?_
  rintro e w3 ⟨g, M2, r, rfl, hK, hM2, hR2, hr2, hb3⟩
  have hb03 : Below N w w3 := hb01.trans (hb3.mono (by omega))
  have hz3 : N ≤ w3.heap.size := by have := hb3.size; omega
  have H0 : Hid (SK w3 w3 N ts fail at' lt ct g r 0 (tot Lf 0) [] M2 (fun i => i = r)) := by
    refine hide ⟨hK.mono (by omega), ⟨none, 0, hR2, HRT.out.below2 (hN.out ▸ hb03), fun x hx h0 => ?_, World.ownsRow_nil _ _ _ _, (fun i hi => by cases hi), rfl, fun i hi => ?_⟩, fun j hj e => hM2 j hj e, Upd.refl _ _, hz3, Nat.zero_le _⟩
    · obtain ⟨b, o, h1, h2, _⟩ := HRT.out.cons h0
      rw [hx] at h1
      cases h1
      have := hN.out
      simp only
      omega
    · have := lt_of_block hR2; have e' : i = r := hi; omega
  have HB03 := hide hb03
  clear hK hM2 hR2 hr2 hb3 hb01 hb03 hz1'
  go_wp2_with fail
  go_loopw [10] (fun q wr => ∃ (i : Nat) (ys : List Int) (N2 N4 : Nat → Prop), i ≤ n ∧ q = .int .i64 i ∧ Hid (SK w3 wr N ts fail at' lt ct g r i (tot Lf i) ys N2 N4)) (fun q _ => n - (intOf q).toNat)
  case atStart => exact ⟨0, [], M2, _, by omega, rfl, H0⟩
  case round =>
    clear H0
    obtain ⟨i, ys, N2, N4, hi, rfl, HB⟩ := hrel
    by_cases hlt2 : i < n
    · obtain ⟨b, o, hap, hcell⟩ := HP.out.cells i hlt2
      have HPN := hide (HP.out.none i hlt2)
      have hZl := HP.out.zlen i hlt2
      have hcap := HP.out.cap i hlt2
      have HPR := hide (HP.out.row i hlt2)
      have htl := tot_le Lf (show i + 1 ≤ n by omega)
      have hti : tot Lf (i + 1) = tot Lf i + Lf i := rfl
      generalize hA : Af i = A at *
      generalize hL : Lf i = L at *
      generalize hC : Cf i = C at *
      generalize hZ : Zf i = Z at *
      clear hA hC hZ
      replace hL := hide hL
      subst hap
      have hbN : b < N := by have := World.block_lt_of_cell? w ⟨b, o + i, none⟩ hcell; have := hN.out; simp only at *; omega
      have hys := HB.out.bys
      rw [hti] at htl
      have HTI := hide hti
      have hLm : L ≤ 1048576 := by omega
      have hyL : ys.length + L ≤ 1048576 := by omega
      replace htl := hide htl
      replace hys := hide hys
      clear hti
      have HCELL : Hid (∀ W, Upd (fun j => N ≤ j) w3 W → W.cell? ⟨b, o + i, none⟩ = some (.slice A L C)) := hide (fun W hu => hu.cell ((HB03.out.cell (p := ⟨b, o + i, none⟩) hbN).trans hcell) (fun e => by have e' : N ≤ b := e; omega))
      have HROW : Hid (∀ W, Upd (fun j => N ≤ j) w3 W → Row W .u8 A Z) := hide (fun W hu => (HPR.out.below2 (hN.out ▸ HB03.out.trans (hu.below hz3 (fun j hj e => by omega)))))
      have HAB : Hid (∀ x, A = some x → 0 < L → x.block < N) := hide (fun x hx h0 => by
        obtain ⟨b', o', h1, h2, _⟩ := HPR.out.cons (by omega)
        rw [hx] at h1
        cases h1
        have := hN.out
        simp only
        omega)
      have hcr := HCELL.out wr HB.out.up
      have hii : (i : Int) < (n : Int) := by omega
      have hii0 : (0 : Int) ≤ (i : Int) := by omega
      have HR0 := hide ((HROW.out wr HB.out.up).alloc (.cells #[] 5))
      have hca : (wr.alloc (.cells #[] 5)).cell? ⟨b, o + i, none⟩ = some (.slice A L C) := HCELL.out _ (HB.out.up.alloc _)
      clear hcell
      go_upto_region 9 with (first
        | (at_builtin; refine append_b rfl (.tmp 41) (.tmp 45) 23 rfl wr.heap.size 5 i0 Try.underlying23 hi0 hz0 hz1 hz2 (.slice (some ⟨wr.heap.size, 0, none⟩) 0 0) [] rfl (OwnB.made #[] 0 (Nat.le_refl _) (by unfold maxLen; omega) rfl (by intro u hu; cases hu)) A L C Z rfl hZl HPN.out HR0.out (by simp; omega) (by simp) ?_; intro v4 w4 ho4 hg4; simp only [List.nil_append] at ho4; replace ho4 := hide ho4; replace hg4 := hide hg4)
        | (at_builtin; refine append_b rfl (.tmp 46) (.tmp 47) 23 rfl wr.heap.size 5 i0 Try.underlying23 hi0 hz0 hz1 hz2 v4 Z rfl (ho4.out.below ((Below.refl _ _).alloc (Nat.le_refl _) _)) (some ⟨w4.heap.size, 0, none⟩) 1 1 [77] rfl rfl (by intro h; cases h) (one_row w4 77) (by omega) (by have := hg4.out.size; simp at this ⊢; omega) ?_; intro v6 w6 ho6 hg6; replace ho6 := hide ho6; replace hg6 := hide hg6)
        | fail)
      have hl6 : (Z ++ [77]).length = L + 1 := by simp [hZl]
      have hown := ho6.out.owns
      rw [hl6] at hown
      obtain ⟨b6, k6, hv6, hb6⟩ := slice_of_owns hown (by omega)
      subst hv6
      have hq6 := hown.lt b6 rfl
      have hk6 : L + 1 ≤ k6 := by
        obtain ⟨a', c', h1, _, h3, _⟩ := ho6.out.sliceN hl6
        cases h1
        exact h3
      have hs4 : wr.heap.size + 1 ≤ w4.heap.size := by have := hg4.out.size; simpa using this
      have hs6 : w4.heap.size + 1 ≤ w6.heap.size := by have := hg6.out.size; simpa using this
      have hU4 : Upd Noth wr w4 := ((Upd.refl Noth wr).alloc _).then (Upd.of_grown (S := fun k => k = wr.heap.size) hg4.out (fun k hk _ => (Option.some.inj hk).symm)) (fun j hj e => by omega)
      have hU46 : Upd (fun k => wr.heap.size ≤ k) w4 w6 := ((Upd.refl _ w4).alloc _).trans (Upd.of_grown hg6.out (fun k hk _ => (ho4.out.owns.lt k hk).1))
      have HU6 : Hid (Upd Noth wr w6) := hide (hU4.then hU46 (fun j hj e => by omega))
      have hkl := HB.out.snk.lt
      have hmg := HB.out.snk.mg
      have hgl := hkl g hmg
      have h4l := HB.out.rsn.lt.1
      have hup6 : Upd (fun j => N ≤ j) w3 w6 := HB.out.up.then HU6.out (fun _ _ e => e.elim)
      have hc6 := HCELL.out w6 hup6
      have hrZ : Row w6 .u8 (some ⟨b6, 0, none⟩) Z := by
        have h := ho6.out.row.take L
        rwa [List.take_left' hZl] at h
      have HW1 := hide (wsnk_any (some ⟨b6, 0, none⟩) L k6 Z (HB.out.snk.upd HU6.out (fun _ _ e => e)) (by omega) hZl (by omega) (fun e => by cases e) hrZ (fun x hx _ => by cases hx; simp only; omega) (by omega) (by have := HB.out.hN; have := HU6.out.size; omega))
      have HW2 : Hid (∀ w9, RSAt w9 N N4 at' lt ct ts fail r i ys → Row w9 .u8 A Z → N ≤ w9.heap.size → Calls Try.prog 21 #[.pointer (some ⟨r, 0, none⟩), .slice A L C] w9 fun e w' => e = .returned (.tuple #[.int .i64 (snkWf ts fail (i, ys) Z).1, .int .i64 (snkWf ts fail (i, ys) Z).2.1]) ∧ ∃ M', RSAt w' N M' at' lt ct ts fail r (snkWf ts fail (i, ys) Z).2.2.1 (snkWf ts fail (i, ys) Z).2.2.2 ∧ Upd N4 w9 w' ∧ ∀ j, M' j → N4 j ∨ w9.heap.size ≤ j) := hide (fun w9 h1 h2 h3 =>
        rwrite_any A L C Z h1 hlt (by omega) hZl hcap HPN.out h2 (fun x hx h0 e => by have := HAB.out x hx h0; have := (h1.lt.1 r h1.lt.2).1; omega) (by omega) h3)
      have hq1 := (snk_writer ts fail 0 0).cnt1 (i, ys) Z
      have hq2 := (snk_writer ts fail 0 0).szle (i, ys) Z
      generalize snkWf ts fail (i, ys) Z = res at *
      obtain ⟨nn, er, c', ys'⟩ := res
      simp only at hq1 hq2 HW1 HW2
      subst hq1
      have hyl : ys'.length ≤ tot Lf (i + 1) := by rw [HTI.out]; have := hys.out; omega
      have hyl2 : ys'.length ≤ 1048576 := by omega
      have hLk : (L : Int) ≤ (k6 : Int) := by omega
      have hL0 : (0 : Int) ≤ (L : Int) := by omega
      have HO6 := hide ho6.out
      have HHUP6 := hide hup6
      clear hU4 hU46 hrZ hown ho4 hg4 ho6 hg6 hca hcr HR0 hup6
      replace hkl := hide hkl
      replace h4l := hide h4l
      replace hq6 := hide hq6
      replace hyl := hide hyl
      go_wp2_with fail
      refine HW1.out.mono ?_
      rintro e w7 ⟨rfl, P2, hK7, hu7, hP2⟩
      have HUP7 : Hid (Upd (fun j => N ≤ j) w3 w7) := hide (HHUP6.out.then hu7 (fun j _ e => (hkl.out j e).1))
      have HO7 : Hid (OwnB w7 wr.heap.size 5 (.slice (some ⟨b6, 0, none⟩) (L + 1) k6) (Z ++ [77])) := hide (HO6.out.upd hu7 (fun k hk e => by have e1 : b6 = k := Option.some.inj hk; have := (hkl.out k e).2; omega))
      have HR7 : Hid (RSAt w7 N N4 at' lt ct ts fail r i ys) := hide ((HB.out.rsn.upd HU6.out (fun _ e => e.elim)).upd hu7 (fun j e => ⟨(hkl.out j e).1, HB.out.d24 j e⟩))
      have HK7 := hide hK7
      have hP2' : Hid (∀ j, P2 j → ¬ N4 j ∧ j ≠ b6) := hide (fun j hj => by
        have hs := HU6.out.size
        rcases hP2 j hj with h | h
        · exact ⟨HB.out.d24 j h, by have := (hkl.out j h).2; omega⟩
        · exact ⟨fun e => by have := (h4l.out j e).2; omega, by have := hq6.out.2; omega⟩)
      have hc7 := HCELL.out w7 HUP7.out
      have hZr : Row w7 .u8 (some ⟨b6, 0, none⟩) Z := by
        have h := HO7.out.row.take L
        rwa [List.take_left' hZl] at h
      have h77 : w7.cell? ⟨b6, L, none⟩ = some (.int .u8 77) := by
        obtain ⟨b', o', h1, h2⟩ := HO7.out.row L (by omega)
        cases h1
        rw [Nat.zero_add] at h2
        rw [h2]
        simp [← hZl]
      have SM1 : Hid (∀ m, Calls Try.prog 15 #[.slice (some ⟨b6, 0, none⟩) L k6, .slice A L C] (w7.drewN m) fun e w' => e = .returned (.bool true) ∧ ∃ m', w' = w7.drewN m') := hide fun m => Calls.quiet_of (sameq (some ⟨b6, 0, none⟩) A L k6 C Z (w7.drewN m) (by unfold maxLen; omega) hZl hZr (HROW.out w7 HUP7.out))
      clear hK7 hu7 hP2 HW1 hc6 hZr HO6 HHUP6 HU6
      go_wp2_with fail
      go_quiet (first | (go_at_call 15; with_reducible exact SM1.out _))
      have HO8 : Hid (∀ m, OwnB (w7.drewN m) wr.heap.size 5 (.slice (some ⟨b6, 0, none⟩) (L + 1) k6) (Z ++ [77])) := hide (fun m => HO7.out.upd (((Still.refl w7).drewN m).upd Noth) (fun _ _ e => e))
      have hLL : (L : Int) < ((L + 1 : Nat) : Int) := by omega
      go_wp2_with fail
      refine (spoil_any (HO8.out _)).mono ?_
      rintro e w9 ⟨rfl, hg9⟩
      have hu9 : Upd (fun k => k = b6) w7 w9 := (Upd.of_grown hg9 (fun k hk _ => (Option.some.inj hk).symm)).ofDrewN
      have hb6N : N ≤ b6 := by have := HB.out.hN; omega
      have HK9 := hide (HK7.out.upd hu9 (fun j hj e => (hP2'.out j hj).2 e))
      have HR9 := hide (HR7.out.upd hu9 (fun j e => ⟨by have e' : j = b6 := e; omega, fun h => by have e' : j = b6 := e; have := (h4l.out j h).2; omega⟩))
      have HUP9 : Hid (Upd (fun j => N ≤ j) w3 w9) := hide (HUP7.out.then hu9 (fun j _ e => by have e' : j = b6 := e; omega))
      have hc9 := HCELL.out w9 HUP9.out
      have HW3 := hide (HW2.out w9 HR9.out (HROW.out w9 HUP9.out) (by have := HUP9.out.size; omega))
      clear hg9 hu9 HO8 HO7 HK7 HR7 HUP7 hc7 h77 SM1 HW2
      go_wp2_with fail
      refine HW3.out.mono ?_
      rintro e w10 ⟨rfl, P4, hR10, hu10, hP4⟩
      have HNEW : Hid (SK w3 w10 N ts fail at' lt ct g r (i + 1) (tot Lf (i + 1)) ys' P2 P4) := hide ⟨HK9.out.upd hu10 (fun j hj e => (hP2'.out j hj).1 e), hR10, fun j hj e => (hP4 j e).elim (fun h => (hP2'.out j hj).1 h) (fun h => by have := (HK9.out.lt j hj).2; omega), HUP9.out.then hu10 (fun j _ e => (h4l.out j e).1), by have := HUP9.out.size; have := hu10.size; omega, hyl.out⟩
      have HBY := hide (sbytes_any HNEW.out.snk (by omega))
      clear hR10 hu10 hP4 HW3 HK9 HR9 HUP9 hc9 hP2'
      go_wp2_with fail
      refine keep (scalls_any HNEW.out.snk) ?_
      go_wp2_with fail
      refine HBY.out.mono ?_
      rintro e w11 ⟨v, rfl, hv11, hb11⟩
      obtain ⟨a11, k11, rfl, _, _, _⟩ := hv11.sliceN (n := ys'.length) rfl
      have HN11 := hide (HNEW.out.upd (Upd.of_below hb11 Noth) (fun _ e => e.elim))
      obtain ⟨ay, cy, hRS⟩ := HN11.out.rsn
      have k3 := (rsnk_cells hRS.blk).2.2.2.1
      obtain ⟨ay', cy', hvv, hrow⟩ := owns_slice hRS.own
      simp only [Value.slice.injEq, true_and] at hvv
      obtain ⟨rfl, rfl⟩ := hvv
      have HSM := hide (sameq a11 ay ys'.length k11 cy ys' w11 (by unfold maxLen; omega) rfl hv11.row hrow)
      have HV11 := hide hv11
      have HSZ := hide hb11.size
      have HP2L := hide HNEW.out.snk.lt
      have HP4L := hide HNEW.out.rsn.lt.1
      have HN10 := hide HNEW.out.hN
      clear hv11 hb11 hRS hrow HBY HNEW
      generalize hYL : ys'.length = YL at *
      replace hYL := hide hYL
      go_wp2_with fail
      refine HSM.out.mono ?_
      rintro e w12 ⟨rfl, m12, hw12⟩
      have hw12' := hw12
      subst hw12'
      have HN12 := hide (HN11.out.upd (((Still.refl w11).drewN m12).upd Noth) (fun _ e => e.elim))
      have HV12 := hide (HV11.out.upd (((Still.refl w11).drewN m12).upd Noth) (fun _ _ e => e))
      generalize w11.drewN m12 = w12 at *
      clear HSM HN11 HV11 k3
      go_wp2_with fail
      refine (spoil_any HV12.out).mono ?_
      rintro e w13 ⟨rfl, hg13⟩
      have HN13 := hide (HN12.out.upd (Upd.of_grown (S := fun k => (Value.slice a11 YL k11).ownBlock = some k) hg13 (fun k hk _ => hk)) (fun j e => by
        have h1 := (HV12.out.owns.lt j e).1
        exact ⟨by have := HN10.out; omega, fun h => by have := (HP2L.out j h).2; omega, fun h => by have := (HP4L.out j h).2; omega⟩))
      obtain ⟨ay2, cy2, hRS2⟩ := HN13.out.rsn
      have d2 := (rsnk_cells hRS2.blk).2.2.1
      clear hg13 HN12 HV12 hRS2
      go_wp2_with fail
      exact ⟨⟨i + 1, ys', P2, P4, by omega, by go_num, HN13⟩, by simp [intOf]; omega⟩
    · obtain rfl : i = n := by omega
      have hge : ¬ (i : Int) < (i : Int) := by omega
      have hyl2 : ys.length ≤ 1048576 := by have := HB.out.bys; omega
      have HBY := hide (sbytes_any HB.out.snk (by omega))
      go_wp2_with fail
      refine HBY.out.mono ?_
      rintro e w11 ⟨v, rfl, hv11, hb11⟩
      obtain ⟨a11, k11, rfl, _, _, _⟩ := hv11.sliceN (n := ys.length) rfl
      have HN11 := hide (HB.out.upd (Upd.of_below hb11 Noth) (fun _ e => e.elim))
      obtain ⟨ay, cy, hRS⟩ := HN11.out.rsn
      have k3 := (rsnk_cells hRS.blk).2.2.2.1
      obtain ⟨ay', cy', hvv, hrow⟩ := owns_slice hRS.own
      simp only [Value.slice.injEq, true_and] at hvv
      obtain ⟨rfl, rfl⟩ := hvv
      have HSM := hide (sameq a11 ay ys.length k11 cy ys w11 (by unfold maxLen; omega) rfl hv11.row hrow)
      clear hv11 hb11 hRS hrow HBY
      generalize hYL : ys.length = YL at *
      replace hYL := hide hYL
      go_wp2_with fail
      refine HSM.out.mono ?_
      rintro e w12 ⟨rfl, m12, hw12⟩
      have hw12' := hw12
      subst hw12'
      have HE : Hid (Below w.heap.size w (w11.drewN m12)) := hide (by
        rw [← hN.out]
        exact HB03.out.trans ((HN11.out.up.trans (((Still.refl w11).drewN m12).upd _)).below hz3 (fun b hb e => by omega)))
      go_wp2_with fail
      go_ret
      exact ⟨rfl, HE.out⟩

end Go.Proofs.Ytpjldnjcomdhkaa
