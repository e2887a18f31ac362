/- PairWrites: the walk. -/
import Derived.Test.YtfcjbibnjibijaaKKept
import Derived.Test.YtfcjbibnjibijaaKRBytes
import Derived.Test.YtfcjbibnjibijaaKCut
import Derived.Test.YtfcjbibnjibijaaKCompares
namespace Go.Proofs.Ytfcjbibnjibijaa
open Go.RowKit

theorem encE_lenW (prev key val : List Int) (hp : prev.length ≤ 1048600) (hk : key.length ≤ 1048600) (hv : val.length ≤ 1048600) : (encE prev key val).length ≤ 30 + key.length + val.length := by
  have hle := comN_le prev key
  have h1 := (enc_len_le (comN prev key) (by omega)).2
  have h2 := (enc_len_le (key.length - comN prev key) (by omega)).2
  have h3 := (enc_len_le val.length (by omega)).2
  unfold encE
  simp only [List.length_append, List.length_drop]
  omega

theorem cpd_one {W : World} {N g : Nat} {C : List Ent} {e : Ent} (h : Cpd W N g C [e]) : ∃ mk mv, W.cell? ⟨g, 0, none⟩ = some (.slice (some ⟨mk, 0, none⟩) e.ks.length (e.ks.length + 1)) ∧ W.cell? ⟨g, 1, none⟩ = some (.slice (some ⟨mv, 0, none⟩) e.vs.length (e.vs.length + 1)) ∧ Mkd W mk e.ks ∧ Mkd W mv e.vs := by
  have hl : C.length = 1 := h.len
  have h0 : 0 < C.length := by omega
  have c0 := h.at0 0 h0
  have c1 := h.at1 0 h0
  have e1 := h.each 0 h0 (by simp)
  obtain ⟨mk, hmk, Mk, _⟩ := e1.k
  obtain ⟨mv, hmv, Mv, _⟩ := e1.v
  simp only [List.getElem_cons_zero] at Mk Mv
  unfold Ent.kv at c0
  unfold Ent.vv at c1
  rw [hmk, e1.ks, e1.kc] at c0
  rw [hmv, e1.vs, e1.vc] at c1
  exact ⟨mk, mv, c0, c1, Mk, Mv⟩
theorem ens_one {W : World} {b : Nat} {e : Ent} (h0 : W.cell? ⟨b, 0, none⟩ = some e.kv) (h1 : W.cell? ⟨b, 1, none⟩ = some e.vv) (ok : e.Ok W) : Ens W b 0 [e] := by
  refine ⟨fun i hi => ?_, fun i hi => ?_, fun i hi => ?_⟩ <;> (obtain rfl : i = 0 := by simpa using hi)
  · exact h0
  · exact h1
  · exact ok
theorem two_at (w : World) (x y : Value) (T : TypeId) : (w.alloc (.cells #[x, y] T)).cell? ⟨w.heap.size, 0, none⟩ = some x ∧ (w.alloc (.cells #[x, y] T)).cell? ⟨w.heap.size, 1, none⟩ = some y :=
  ⟨two_new w x y T 0 x rfl, two_new w x y T 1 y rfl⟩

set_option maxRecDepth 100000 in
set_option maxHeartbeats 3200000 in
theorem pairWrites_any (a k v : Option Addr) (la ca lk ck lv cv : Nat) (xs ks vs : List Int) (w : World) (ha : xs.length = la) (hk : ks.length = lk) (hv : vs.length = lv) (ma : la ≤ 1048600) (mk : lk ≤ 1048600) (mv : lv ≤ 1048600) (qk : lk ≤ ck) (qv : lv ≤ cv) (na : a = none → la = 0 ∧ ca = 0) (nk : k = none → lk = 0 ∧ ck = 0) (nv : v = none → lv = 0 ∧ cv = 0) (ra : Row w .u8 a xs) (rk : Row w .u8 k ks) (rv : Row w .u8 v vs) (k8 : B8 ks) (v8 : B8 vs) :
    Calls Try.prog 6 #[.slice a la ca, .agg #[.slice k lk ck, .slice v lv cv]] w fun e w' => e = .returned (.bool true) ∧ Below w.heap.size w w' := by
  subst hk
  subst hv
  have hel := encE_lenW xs ks vs (by omega) mk mv
  have RA := hide (fun (W : World) (h : Below w.heap.size w W) => ra.below2 h)
  have RK := hide (fun (W : World) (h : Below w.heap.size w W) => rk.below2 h)
  have RV := hide (fun (W : World) (h : Below w.heap.size w W) => rv.below2 h)
  have OK : Hid (∀ (W : World) (h : Below w.heap.size w W), Ent.Ok W ⟨k, ck, ks, v, cv, vs⟩) := fun W h => ⟨rk.below2 h, rv.below2 h, nk, nv, qk, qv, k8, v8, by show ks.length ≤ _; omega, by show vs.length ≤ _; omega⟩
  have NA := hide na
  have NK := hide nk
  have NV := hide nv
  clear ra rk rv na nk nv k8 v8
  have SM : Hid (∀ W a c a' c' (zs : List Int), zs.length ≤ 140737488351232 → Row W .u8 a zs → Row W .u8 a' zs → Calls Try.prog 14 #[.slice a zs.length c, .slice a' zs.length c'] W fun e w' => e = .returned (.bool true) ∧ Still W w') := fun W a c a' c' zs hm h h' => by
    have := same_any a a' zs.length c zs.length c' zs zs W (by unfold maxLen; omega) rfl rfl h h'
    rw [decide_eq_true rfl] at this
    exact this
  have X0 := hide (two_at w (.slice k ks.length ck) (.slice v vs.length cv) 25)
  have t0 : Below w.heap.size w (w.alloc (.cells #[.slice k ks.length ck, .slice v vs.length cv] 25)) := (Below.refl _ _).alloc (Nat.le_refl _) _
  have z0 : (w.alloc (.cells #[.slice k ks.length ck, .slice v vs.length cv] 25)).heap.size = w.heap.size + 1 := by simp
  have T0 := hide t0
  have Z0 := hide z0
  clear t0 z0
  go_enter Try.func6, Try.ntmps6
  go_wp2_with fail
  generalize w.alloc (.cells #[.slice k ks.length ck, .slice v vs.length cv] 25) = w0 at *
  refine (lives_any _).mono ?_
  rintro e w1 ⟨rfl, t1⟩
  have z1 := t1.size
  have T1 : Hid (Below w0.heap.size w0 w1) := t1
  have TW1 : Hid (Below w.heap.size w w1) := T0.out.trans (t1.mono T0.out.size)
  clear t1
  go_wp2_with fail
  refine (lent_any a la ca xs w1 ha (by omega) NA.out (RA.out _ TW1.out)).mono ?_
  rintro e w2 ⟨rfl, hL2, b2⟩
  have hlt2 := hL2.lt
  have z2 := b2.size
  have zW : w.heap.size < w0.heap.size := by rw [Z0.out]; omega
  have B02 : Hid (Below w0.heap.size w0 w2) := T1.out.trans (b2.mono z1)
  have x0 := (B02.out.cell (p := ⟨w.heap.size, 0, none⟩) zW).trans X0.out.1
  have x1 := (B02.out.cell (p := ⟨w.heap.size, 1, none⟩) zW).trans X0.out.2
  have TW2 : Hid (Below w.heap.size w w2) := T0.out.trans (B02.out.mono T0.out.size)
  have HL2 := hide hL2
  have g1lt : w.heap.size ≤ w1.heap.size := TW1.out.size
  generalize w1.heap.size = gp at *
  clear hL2 b2 T1 TW1 X0 z1
  have YY := hide (two_at w2 (.slice k ks.length ck) (.slice v vs.length cv) 25)
  have bA : Below w2.heap.size w2 (w2.alloc (.cells #[.slice k ks.length ck, .slice v vs.length cv] 25)) := (Below.refl _ _).alloc (Nat.le_refl _) _
  have TW3 : Hid (Below w.heap.size w (w2.alloc (.cells #[.slice k ks.length ck, .slice v vs.length cv] 25))) := TW2.out.trans (bA.mono TW2.out.size)
  have HL3 := hide (HL2.out.below bA hlt2)
  have X3 := hide (And.intro ((bA.cell (p := ⟨w.heap.size, 0, none⟩) (by have := B02.out.size; show w.heap.size < _; omega)).trans x0) ((bA.cell (p := ⟨w.heap.size, 1, none⟩) (by have := B02.out.size; show w.heap.size < _; omega)).trans x1))
  have ZA := hide (show (w2.alloc (.cells #[.slice k ks.length ck, .slice v vs.length cv] 25)).heap.size = w2.heap.size + 1 by simp)
  have CP := hide (copy_any (some ⟨w2.heap.size, 0, none⟩) w2.heap.size 0 1 1 [⟨k, ck, ks, v, cv, vs⟩] (w2.alloc (.cells #[.slice k ks.length ck, .slice v vs.length cv] 25)) rfl (by omega) (fun _ => rfl) (ens_one YY.out.1 YY.out.2 (OK.out _ TW3.out)) (fun _ => by rw [ZA.out]; omega))
  clear bA
  go_wp2_with fail
  generalize w2.alloc (.cells #[.slice k ks.length ck, .slice v vs.length cv] 25) = w3 at *
  refine CP.out.mono ?_
  rintro e w4 ⟨g, cap, C, rfl, C4, hcap, b4⟩
  have z4 := b4.size
  have zA := ZA.out
  have TW4 : Hid (Below w.heap.size w w4) := TW3.out.trans (b4.mono TW3.out.size)
  have HL4 := hide (HL3.out.below b4 HL3.out.lt)
  have zs3 : w.heap.size < w3.heap.size := by have := TW2.out.size; omega
  have x4 := (b4.cell (p := ⟨w.heap.size, 0, none⟩) zs3).trans X3.out.1
  have y4 := (b4.cell (p := ⟨w.heap.size, 1, none⟩) zs3).trans X3.out.2
  obtain ⟨mk4, mv4, c40, c41, Mk4, Mv4⟩ := cpd_one C4
  have HC4 := hide C4
  have HMk := hide Mk4
  have HMv := hide Mv4
  have zg := C4.lt
  have zw4 : w.heap.size < w4.heap.size := by omega
  have lp4 := HL4.out.lt
  have lk4 := Mk4.lt
  have lv4 := Mv4.lt
  clear C4 Mk4 Mv4 b4 TW2 TW3 HL2 HL3 X3 ZA CP B02 YY z2 zA x0 x1 zs3 z4 hlt2 zW
  dsimp only at c40 c41
  have F := hide (fun (W : World) (h : Below w4.heap.size w4 W) => (⟨TW4.out.trans (h.mono TW4.out.size), HL4.out.below h lp4, HMk.out.below h lk4, HMv.out.below h lv4, HC4.out.below h, (h.cell (p := ⟨g, 0, none⟩) zg).trans c40, (h.cell (p := ⟨g, 1, none⟩) zg).trans c41, (h.cell (p := ⟨w.heap.size, 0, none⟩) zw4).trans x4, (h.cell (p := ⟨w.heap.size, 1, none⟩) zw4).trans y4⟩ : Below w.heap.size w W ∧ Lent W gp xs ∧ Mkd W mk4 ks ∧ Mkd W mv4 vs ∧ Cpd W _ g C [⟨k, ck, ks, v, cv, vs⟩] ∧ W.cell? ⟨g, 0, none⟩ = some (.slice (some ⟨mk4, 0, none⟩) ks.length (ks.length + 1)) ∧ W.cell? ⟨g, 1, none⟩ = some (.slice (some ⟨mv4, 0, none⟩) vs.length (vs.length + 1)) ∧ W.cell? ⟨w.heap.size, 0, none⟩ = some (.slice k ks.length ck) ∧ W.cell? ⟨w.heap.size, 1, none⟩ = some (.slice v vs.length cv)))
  have BY := hide (fun (W : World) (h : Below w4.heap.size w4 W) => bytes_any (some ⟨gp, 0, none⟩) (some ⟨mk4, 0, none⟩) (some ⟨mv4, 0, none⟩) la (la + 2) ks.length (ks.length + 1) vs.length (vs.length + 1) xs ks vs W ha rfl rfl (by omega) mk mv (by omega) (by intro h; cases h) (by intro h; cases h) (F.out W h).2.1.row (F.out W h).2.2.1.row (F.out W h).2.2.2.1.row)
  have RB := hide (fun (W : World) (h : Below w4.heap.size w4 W) => rbytes_any a k v la ca ks.length ck vs.length cv xs ks vs W ha rfl rfl (by omega) mk mv qk NV.out NK.out (RA.out W (F.out W h).1) (RK.out W (F.out W h).1) (RV.out W (F.out W h).1))
  clear HL4 HMk HMv HC4 x4 y4
  go_wp2_with fail
  refine (BY.out w4 (Below.refl _ _)).mono ?_
  rintro e w5 ⟨v5, rfl, o5, b5⟩
  obtain ⟨a5, c5, rfl, _, _, k5⟩ := Mine.made o5
  have K5 := hide k5
  have z5 := b5.size
  have T5 := hide b5
  obtain ⟨_, _, _, _, _, c50, c51, _, _⟩ := F.out w5 b5
  clear o5 k5 b5 c40 c41
  go_wp2_with fail
  refine (BY.out w5 T5.out).mono ?_
  rintro e w6 ⟨v6, rfl, o6, b6⟩
  obtain ⟨a6, c6, rfl, _, _, k6⟩ := Mine.made o6
  have K6 := hide k6
  have K56 := hide (K5.out.below b6)
  have z6 := b6.size
  have T6 := hide (T5.out.trans (b6.mono z5))
  obtain ⟨_, _, _, _, _, _, _, x6, y6⟩ := F.out w6 T6.out
  clear o6 k6 b6 c50 c51 K5
  go_wp2_with fail
  refine (RB.out w6 T6.out).mono ?_
  rintro e w7 ⟨v7, rfl, o7, b7⟩
  obtain ⟨a7, c7, rfl, _, _, k7⟩ := Mine.made o7
  have K7 := hide k7
  have K57 := hide (K56.out.below b7)
  have K67 := hide (K6.out.below b7)
  have z7 := b7.size
  have T7 := hide (T6.out.trans (b7.mono T6.out.size))
  clear o7 k7 b7 x6 y6 K56 K6
  go_wp2_with fail
  refine (SM.out _ _ _ _ _ _ (by omega) K57.out.row K7.out.row).mono ?_
  rintro e w8 ⟨rfl, s8⟩
  have b8 := s8.below w7.heap.size
  have K58 := hide (K57.out.below b8)
  have K68 := hide (K67.out.below b8)
  have K78 := hide (K7.out.below b8)
  have z8 := b8.size
  have T8 := hide (T7.out.trans (b8.mono T7.out.size))
  clear s8 b8 K57 K67 K7
  go_wp2_with fail
  refine (spoil_any K58.out.own).mono ?_
  rintro e w9 ⟨rfl, g9⟩
  have z9 := g9.size
  have b9 : Below w4.heap.size w8 w9 := K58.out.grown g9 (Nat.le_refl _) T8.out.size
  have T9 := hide (T8.out.trans b9)
  have K69 := hide (K68.out.kept K58.out g9 (by omega))
  have K79 := hide (K78.out.kept K58.out g9 (by omega))
  clear g9 b9 K58 K68 K78
  go_wp2_with fail
  refine (SM.out _ _ _ _ _ _ (by omega) K69.out.row K79.out.row).mono ?_
  rintro e wA ⟨rfl, sA⟩
  have bA := sA.below w4.heap.size
  have TA := hide (T9.out.trans bA)
  clear sA bA K69 K79
  go_wp2_with fail
  refine (kept_any gp a la ca xs wA ha (by omega) (F.out wA TA.out).2.1 (RA.out wA (F.out wA TA.out).1)).mono ?_
  rintro e wB ⟨rfl, sB⟩
  have TB := hide (TA.out.trans (sB.below w4.heap.size))
  clear sB
  obtain ⟨_, _, _, _, _, _, _, xB, yB⟩ := F.out wB TB.out
  have YY := hide (two_at wB (.slice k ks.length ck) (.slice v vs.length cv) 25)
  have TC : Hid (Below w4.heap.size w4 (wB.alloc (.cells #[.slice k ks.length ck, .slice v vs.length cv] 25))) := TB.out.trans ((Below.refl _ _).alloc TB.out.size _)
  have ZC := hide (show (wB.alloc (.cells #[.slice k ks.length ck, .slice v vs.length cv] 25)).heap.size = wB.heap.size + 1 by simp)
  have KP := hide (rkept_yes (some ⟨wB.heap.size, 0, none⟩) _ g cap wB.heap.size 0 1 1 C [⟨k, ck, ks, v, cv, vs⟩] (wB.alloc (.cells #[.slice k ks.length ck, .slice v vs.length cv] 25)) rfl (by omega) hcap (F.out _ TC.out).2.2.2.2.1 (fun _ => rfl) (ens_one YY.out.1 YY.out.2 (OK.out _ (F.out _ TC.out).1)) (fun _ => by rw [ZC.out]; omega))
  go_wp2_with fail
  generalize wB.alloc (.cells #[.slice k ks.length ck, .slice v vs.length cv] 25) = wC at *
  refine KP.out.mono ?_
  rintro e wD ⟨rfl, bD⟩
  have TD := hide (TC.out.trans (bD.mono TC.out.size))
  clear bD
  go_wp2_with fail
  go_ret
  exact ⟨rfl, (F.out _ TD.out).1⟩

end Go.Proofs.Ytfcjbibnjibijaa
